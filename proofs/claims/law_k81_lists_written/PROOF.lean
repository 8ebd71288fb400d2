import PyProof.Rows.All
import Wide.All
import OpenK.AllK
import Wide.FinOn
import Lean
import PyProof.EqAt
import PyProof.EqKinds
import PyProof.TupleCall
import PySem.Challenge.RW_reelcut_k81_lists_written
set_option Elab.async false
set_option linter.all false
set_option maxRecDepth 100000
namespace L2
open PySem PySem.Spec PyProof.Rows
abbrev Key := Sum Int Str
def qB7 : Key → Value → Bool
  | .inl k, v => Value.isInt k v
  | .inr x, v => Value.isStrOf x v
def qDq (w : World) : Key → Int
  | .inl k => hashInt k
  | .inr x => hashStr w x
theorem qq : ∀ {k : Key} {v : Value}, qB7 k v = true → (∃ i t, k = Sum.inl i ∧ v = Value.int i t) ∨ (∃ x t, k = Sum.inr x ∧ v = Value.str x t)
  | .inl i, v, h => by
    obtain ⟨t, e⟩ := Value.isInt_shape (k := i) (v := v) h
    exact .inl ⟨i, t, rfl, e⟩
  | .inr x, v, h => by
    obtain ⟨t, e⟩ := Value.isStrOf_shape (x := x) (v := v) h
    exact .inr ⟨x, t, rfl, e⟩
theorem qBr (a b : Int) : decide ((Sum.inl a : Key) = Sum.inl b) = (a == b) := by
  by_cases e : a = b
  · subst e; simp
  · have h : ¬ (Sum.inl a : Key) = Sum.inl b := fun q => e (Sum.inl.inj q)
    rw [decide_eq_false h]
    exact (beq_eq_false_iff_ne.mpr e).symm
theorem qBq (a b : Str) : decide ((Sum.inr a : Key) = Sum.inr b) = decide (a = b) := by
  by_cases e : a = b
  · subst e; simp
  · have h : ¬ (Sum.inr a : Key) = Sum.inr b := fun q => e (Sum.inr.inj q)
    rw [decide_eq_false h, decide_eq_false e]
theorem qB6 (a : Int) (b : Str) : decide ((Sum.inl a : Key) = Sum.inr b) = false := decide_eq_false (fun q => nomatch q)
theorem qB3 (a : Str) (b : Int) : decide ((Sum.inr a : Key) = Sum.inl b) = false := decide_eq_false (fun q => nomatch q)
def kf (prog : Program) (w : World) : PySem.KeyKind prog w Key where
  is := qB7
  hash := qDq w
  inj := fun v a b ha hb => by
    rcases qq ha with ⟨i, t, rfl, rfl⟩ | ⟨x, t, rfl, rfl⟩
    · rcases qq hb with ⟨j, u, rfl, e⟩ | ⟨y, u, rfl, e⟩
      · injection e with e1 _; rw [e1]
      · exact nomatch e
    · rcases qq hb with ⟨j, u, rfl, e⟩ | ⟨y, u, rfl, e⟩
      · exact nomatch e
      · injection e with e1 _; rw [e1]
  byValue := fun k v h => by
    rcases qq h with ⟨i, t, rfl, rfl⟩ | ⟨x, t, rfl, rfl⟩ <;> rfl
  pyHash := fun hv h => by
    rcases qq hv with ⟨i, t, rfl, rfl⟩ | ⟨x, t, rfl, rfl⟩
    · exact wpAny_pyHash_int h
    · exact wpAny_pyHash_str h
  eqBool := fun hu hv h => by
    rcases qq hu with ⟨i, t, rfl, rfl⟩ | ⟨x, t, rfl, rfl⟩
    · rcases qq hv with ⟨j, u, rfl, rfl⟩ | ⟨y, u, rfl, rfl⟩
      · rw [qBr] at h; exact wpAny_eqBool_int h
      · rw [qB6] at h; exact SeqAt.EqAt.int_str i t y u _ _ _ _ h
    · rcases qq hv with ⟨j, u, rfl, rfl⟩ | ⟨y, u, rfl, rfl⟩
      · rw [qB3] at h; exact SeqAt.EqAt.str_int x t j u _ _ _ _ h
      · rw [qBq] at h; exact wpAny_eqBool_str h
  «strs» := fun k x t v h => by
    rcases qq h with ⟨i, u, rfl, e⟩ | ⟨y, u, rfl, e⟩
    · exact nomatch e
    · injection e with e1 _
      subst e1
      cases v <;> rfl
end L2
namespace L2
open PySem PySem.Spec PyProof.Rows
inductive V where
  | non | bl (b : Bool) | int (i : Int) | str (x : Str) | byt (b : Array UInt8) | flt (b : UInt64) | ref (a : Addr) | ty (n : String)
  deriving DecidableEq
def RelV : V → Value → Prop
  | .non, u => u = Value.none
  | .bl b, u => u = Value.bool b
  | .int i, u => ∃ t, u = Value.int i t
  | .str x, u => ∃ t, u = Value.str x t
  | .byt b, u => ∃ t, u = Value.bytes b t
  | .flt b, u => ∃ t, u = Value.float b t
  | .ref a, u => u = Value.ref a
  | .ty n, u => u = Value.type n
abbrev Vals : List V → List Value → Prop := Paired RelV
theorem Vals.length {xs : List V} {us : List Value} (r : Vals xs us) : xs.length = us.length := Paired.length r
theorem Vals.get : ∀ {xs : List V} {us : List Value} {i : Nat} {x : V}, Vals xs us → xs[i]? = some x → ∃ u, us[i]? = some u ∧ RelV x u
  | _, _, _, _, .nil, e => by simp at e
  | _, _, 0, _, .cons r _, e => by simp at e; subst e; exact ⟨_, rfl, r⟩
  | _, _, i + 1, x, .cons _ t, e => by
    obtain ⟨u, h1, h2⟩ := Vals.get (i := i) (x := x) t (by simpa using e)
    exact ⟨u, by simpa using h1, h2⟩
theorem Vals.set {x : V} {u : Value} (r : RelV x u) : ∀ {xs : List V} {us : List Value} (i : Nat), Vals xs us → Vals (xs.set i x) (us.set i u)
  | _, _, _, .nil => .nil
  | _, _, 0, .cons _ t => .cons r t
  | _, _, i + 1, .cons q t => .cons q (Vals.set r i t)
theorem Vals.append : ∀ {xs ys : List V} {us ws : List Value}, Vals xs us → Vals ys ws → Vals (xs ++ ys) (us ++ ws)
  | _, _, _, _, .nil, s => s
  | _, _, _, _, .cons r t, s => .cons r (Vals.append t s)
theorem Vals.take : ∀ {xs : List V} {us : List Value} (n : Nat), Vals xs us → Vals (xs.take n) (us.take n)
  | _, _, 0, _ => .nil
  | _, _, _ + 1, .nil => .nil
  | _, _, n + 1, .cons r t => .cons r (Vals.take n t)
theorem Vals.drop : ∀ {xs : List V} {us : List Value} (n : Nat), Vals xs us → Vals (xs.drop n) (us.drop n)
  | _, _, 0, r => r
  | _, _, _ + 1, .nil => .nil
  | _, _, n + 1, .cons _ t => Vals.drop n t
def RelO : Option V → Option Value → Prop
  | some v, some u => RelV v u
  | none, none => True
  | _, _ => False
def KV {κ : Type} : List (κ × V) → List (κ × Value) → Prop := Paired fun (p : κ × V) (q : κ × Value) => p.1 = q.1 ∧ RelV p.2 q.2
def kV : Key → V
  | .inl i => .int i
  | .inr x => .str x
inductive HO where
  | lst (xs : List V)
  | tup (xs : List V)
  | dK (kvs : List (Key × V)) | dT (kvs : List (List Key × V))
  | set (S : Int → Bool) (n : Nat)
  | ins (C dx : Addr) (fs : List (Str × V))
  | own (x : Addr)
  | xd (fs : List (Str × V))
  | met (f x : Addr)
  | rng (lo hi : Int)
  | frz (o : Obj) (u : HO)
  | tbl (ps : Array Value)
  | ext (φ : Heap → Prop)
abbrev Hp := Addr → Option HO
def upd (H : Hp) (a : Addr) (o : HO) : Hp := fun b => if b = a then some o else H b
theorem qD {H : Hp} {a : Addr} {o : HO} : upd H a o a = some o := by unfold upd; rw [if_pos rfl]
theorem qP {H : Hp} {a b : Addr} {o : HO} (h : b ≠ a) : upd H a o b = H b := by unfold upd; rw [if_neg h]
theorem qA3 {H : Hp} {a : Addr} {o u : HO} : upd (upd H a o) a u = upd H a u := by
  funext b; unfold upd; split <;> rfl
theorem qC4 {H : Hp} {a b : Addr} {o u : HO} (h : H a = some o) (h' : H b = some u) (d : o ≠ u) : a ≠ b := by
  intro e; subst e; rw [h] at h'; exact d (Option.some.inj h')
theorem qL {H : Hp} {a b : Addr} {o : HO} (h : H a = some o) (h' : H b = none) : a ≠ b := by
  intro e; subst e; rw [h] at h'; cases h'
section
variable (P : Program) (w : World)
def ObjOk (H : Hp) (h : Heap) (a : Addr) : HO → Prop
  | .lst xs => xs.length ≤ sizeLine ∧ ∃ (its : List Value) (n : Nat), Vals xs its ∧ h.get? a = some { cls := .type "list", data := .seq its.toArray n }
  | .tup xs => xs.length ≤ sizeLine ∧ ∃ its : List Value, Vals xs its ∧ IsTup h a its.toArray
  | .dK kvs => kvs.length ≤ sizeLine ∧ (a == sysModules) = false ∧ ∃ vs, KV kvs vs ∧ h.DictOf (kf P w) a vs
  | .dT kvs => kvs.length ≤ sizeLine ∧ (a == sysModules) = false ∧ ∃ xs : List (List Key × Addr × Value),
      Paired (fun (p : List Key × V) (q : List Key × Addr × Value) => p.1 = q.1 ∧ H q.2.1 = some (.tup (p.1.map kV)) ∧ RelV p.2 q.2.2) kvs xs ∧
      ∃ o es ep, h.get? a = some o ∧ o.ExactDict ∧ o.data = .dict es ep ∧ es.toList = xs.map (entryOfKey (tupleKind (kf P w))) ∧ (xs.map (·.1)).Nodup
  | .set S n => h.SetOf (intKind P w) a S n
  | .ins C dx fs => H dx = some (.own a) ∧ fs.length ≤ 1000 ∧ dx ≠ a ∧ h.get? a = some (PySem.W.instObj C dx) ∧
      ∃ mA, h.Ns1 dx mA ∧ (∀ f, RelO (fs.lookup f) (mA f)) ∧ PySem.Within mA (fs.map (·.1))
  | .own _ => ∃ o, h.get? a = some o
  | .xd fs => ∃ mA, h.Ns1 a mA ∧ ∀ f, RelO (fs.lookup f) (mA f)
  | .rng lo hi => ∃ t u v, h.get? a = some { cls := .type "range", data := .fields #[.int lo t, .int hi u, .int 1 v] }
  | .frz o u => h.get? a = some o ∧ ObjOk H h a u
  | .tbl ps => h.get? a = some { cls := .none, data := .fields ps }
  | .met f x => h.get? a = some (PySem.W.methodObj (.ref f) (.ref x))
  | .ext φ => φ h ∧ (∃ o, h.get? a = some o) ∧ ∀ h1 h2 : Heap, φ h1 → (∀ o, h1.get? a = some o → h2.get? a = some o) → φ h2
def HOk (H : Hp) (h : Heap) : Prop := ∀ a o, H a = some o → ObjOk P w H h a o
end
section
variable {P : Program} {w : World} {H H' : Hp} {h h' : Heap} {a : Addr} {o : HO}
theorem ObjOk.lt (x : ObjOk P w H h a o) : a < h.objs.size := by
  cases o with
  | lst xs => obtain ⟨_, _, _, _, e⟩ := x; exact Heap.lt_size e
  | tup xs => obtain ⟨_, _, _, p⟩ := x; exact p.lt
  | dK kvs => obtain ⟨_, _, _, _, o, _, _, e, _⟩ := x; exact Heap.lt_size e
  | dT kvs => obtain ⟨_, _, _, _, o, _, _, e, _⟩ := x; exact Heap.lt_size e
  | set S n => obtain ⟨o, _, _, _, e, _⟩ := x; exact Heap.lt_size e
  | ins C dx fs => obtain ⟨_, _, _, e, _⟩ := x; exact Heap.lt_size e
  | own y => obtain ⟨_, e⟩ := x; exact Heap.lt_size e
  | xd fs => obtain ⟨_, ⟨_, _, _, e, _⟩, _⟩ := x; exact Heap.lt_size e
  | rng lo hi => obtain ⟨_, _, _, e⟩ := x; exact Heap.lt_size e
  | frz ob u => obtain ⟨e, _⟩ := x; exact Heap.lt_size e
  | tbl ps => exact Heap.lt_size (show h.get? a = some _ from x)
  | met f y => exact Heap.lt_size (show h.get? a = some _ from x)
  | ext φ => obtain ⟨_, ⟨_, e⟩, _⟩ := x; exact Heap.lt_size e
theorem Paired.mapP {α β : Type} {F G : α → β → Prop} : ∀ {l₁ : List α} {l₂ : List β}, Paired F l₁ l₂ → (∀ a b, F a b → G a b) → Paired G l₁ l₂
  | _, _, .nil, _ => .nil
  | _, _, .cons r t, f => .cons (f _ _ r) (Paired.mapP t f)
theorem ObjOk.stay (x : ObjOk P w H h a o) (k : ∀ b u, (b = a ∨ H b = some (.own a)) → h.get? b = some u → h'.get? b = some u)
    (ho : ∀ b, H b = some (.own a) → H' b = some (.own a)) (ht : ∀ b xs, H b = some (.tup xs) → H' b = some (.tup xs)) : ObjOk P w H' h' a o := by
  induction o with
  | lst xs => obtain ⟨z, its, n, r, e⟩ := x; exact ⟨z, its, n, r, k _ _ (.inl rfl) e⟩
  | tup xs => obtain ⟨z, its, r, ob, e, c⟩ := x; exact ⟨z, its, r, ob, k _ _ (.inl rfl) e, c⟩
  | dK kvs => obtain ⟨z, y, vs, r, ob, es, ep, e, c⟩ := x; exact ⟨z, y, vs, r, ob, es, ep, k _ _ (.inl rfl) e, c⟩
  | dT kvs =>
    obtain ⟨z, y, xs, r, ob, es, ep, e, c⟩ := x
    exact ⟨z, y, xs, Paired.mapP r fun p q z => ⟨z.1, ht _ _ z.2.1, z.2.2⟩, ob, es, ep, k _ _ (.inl rfl) e, c⟩
  | set S n => obtain ⟨ob, es, ep, t, e, c⟩ := x; exact ⟨ob, es, ep, t, k _ _ (.inl rfl) e, c⟩
  | ins C dx fs =>
    obtain ⟨d, z, ne, e, mA, ⟨od, es, ep, e2, c⟩, r⟩ := x
    exact ⟨ho _ d, z, ne, k _ _ (.inl rfl) e, mA, ⟨od, es, ep, k _ _ (.inr d) e2, c⟩, r⟩
  | own y => obtain ⟨ob, e⟩ := x; exact ⟨ob, k _ _ (.inl rfl) e⟩
  | xd fs => obtain ⟨mA, ⟨od, es, ep, e, c⟩, r⟩ := x; exact ⟨mA, ⟨od, es, ep, k _ _ (.inl rfl) e, c⟩, r⟩
  | rng lo hi => obtain ⟨t, u, v, e⟩ := x; exact ⟨t, u, v, k _ _ (.inl rfl) e⟩
  | frz ob u ih => obtain ⟨e, q⟩ := x; exact ⟨k _ _ (.inl rfl) e, ih q⟩
  | tbl ps =>
    have e : h.get? a = some { cls := .none, data := .fields ps } := x
    show h'.get? a = some { cls := .none, data := .fields ps }
    exact k a _ (.inl rfl) e
  | met f y =>
    have e : h.get? a = some (PySem.W.methodObj (.ref f) (.ref y)) := x
    show h'.get? a = some (PySem.W.methodObj (.ref f) (.ref y))
    exact k a _ (.inl rfl) e
  | ext φ => obtain ⟨p, ⟨o, e⟩, st⟩ := x; exact ⟨st _ _ p fun o q => k _ _ (.inl rfl) q, ⟨o, k _ _ (.inl rfl) e⟩, st⟩
theorem HOk.lt (x : HOk P w H h) (e : H a = some o) : a < h.objs.size := (x a o e).lt
theorem HOk.fresh (x : HOk P w H h) (e : h.objs.size ≤ a) : H a = none := by
  cases q : H a with
  | none => rfl
  | some u => exact absurd (Nat.lt_of_lt_of_le (x.lt q) e) (Nat.lt_irrefl _)
theorem HOk.kept (x : HOk P w H h) (k : ∀ b u, h.get? b = some u → h'.get? b = some u) : HOk P w H h' := fun a o e =>
  (x a o e).stay (fun b u _ q => k b u q) (fun _ q => q) fun _ _ q => q
theorem HOk.laid (x : HOk P w H h) (k : ∀ b u, h.get? b = some u → h'.get? b = some u) (hp : h.objs.size ≤ a) (new : ObjOk P w (upd H a o) h' a o) : HOk P w (upd H a o) h' := fun b u e => by
  have hn := x.fresh hp
  by_cases hb : b = a
  · subst hb; rw [qD] at e; cases e; exact new
  · rw [qP hb] at e
    exact (x b u e).stay (fun c v _ q => k c v q) (fun c q => by rw [qP (qL q hn)]; exact q) fun c xs q => by rw [qP (qL q hn)]; exact q
end
def Rd (H : Hp) (a : Addr) (u : HO) : Prop := H a = some u ∨ ∃ o, H a = some (.frz o u)
theorem Rd.of {H : Hp} {a : Addr} {u : HO} (h : H a = some u) : Rd H a u := .inl h
theorem Rd.ok {P : Program} {w : World} {H : Hp} {h : Heap} {a : Addr} {u : HO} (r : Rd H a u) (x : HOk P w H h) : ObjOk P w H h a u := by
  rcases r with r | ⟨o, r⟩
  · exact x a u r
  · obtain ⟨_, q⟩ := x a _ r
    exact q
def Mut : Option HO → Prop
  | some (.lst _) => True
  | some (.dK _) => True
  | some (.dT _) => True
  | some (.set _ _) => True
  | some (.ins _ _ _) => True
  | some (.ext _) => True
  | _ => False
section
variable {P : Program} {w : World} {H : Hp} {h h' : Heap} {x e : Addr} {o' : HO}
theorem HOk.write (ok : HOk P w H h) (mu : Mut (H x)) (he : e = x ∨ H e = some (.own x)) (k : ∀ b u, b ≠ e → h.get? b = some u → h'.get? b = some u) (heo : ∃ u, h'.get? e = some u)
    (new : ObjOk P w (upd H x o') h' x o') : HOk P w (upd H x o') h' := fun b u q => by
  have nown : ∀ c y, H c = some (.own y) → c ≠ x := fun c y r z => by subst z; rw [r] at mu; exact mu
  have ntup : ∀ c xs, H c = some (.tup xs) → c ≠ x := fun c xs r z => by subst z; rw [r] at mu; exact mu
  by_cases hb : b = x
  · subst hb; rw [qD] at q; cases q; exact new
  · rw [qP hb] at q
    by_cases hbe : b = e
    · have q' : H b = some (.own x) := by
        rcases he with z | z
        · exact absurd (hbe.trans z) hb
        · rw [hbe]; exact z
      rw [q] at q'; cases q'
      obtain ⟨v, hv⟩ := heo
      exact ⟨v, by rw [hbe]; exact hv⟩
    · refine (ok b u q).stay (fun c v hc r => k c v ?_ r) (fun c r => by rw [qP (nown c b r)]; exact r) fun c xs r => by rw [qP (ntup c xs r)]; exact r
      rcases hc with rfl | hc
      · exact hbe
      · rintro rfl
        rcases he with z | z
        · exact nown c b hc z
        · rw [hc] at z; cases z; exact hb rfl
end
structure Un (fs ex : List Addr) (H H' : Hp) (h h' : Heap) : Prop where
  keep : ∀ b o, h.get? b = some o → H b = none → b ∉ fs → b ∉ ex → h'.get? b = some o
  slot : ∀ b o, h.get? b = some o → H b = none → b ∈ fs → b ∉ ex → ∃ sl, h'.get? b = some { o with slots := sl }
  free : ∀ b o, h.get? b = some o → H b = none → b ∉ ex → H' b = none
  there : ∀ b o, h.get? b = some o → b ∉ ex → ∃ o', h'.get? b = some o'
  tups : ∀ b xs, H b = some (.tup xs) → H' b = some (.tup xs)
  frzs : ∀ b o u, H b = some (.frz o u) → H' b = some (.frz o u)
  tbls : ∀ b ps, H b = some (.tbl ps) → ∃ more, H' b = some (.tbl (ps ++ more))
section
variable {fs fs' ex ex' : List Addr} {H H1 H2 : Hp} {h h1 h2 h' : Heap} {a x e : Addr} {o : HO}
theorem Un.any (u : Un fs ex H H1 h h1) {b : Addr} {ob : Obj} (q : h.get? b = some ob) (n : H b = none) (hx : b ∉ ex) : ∃ sl, h1.get? b = some { ob with slots := sl } := by
  by_cases hb : b ∈ fs
  · exact u.slot b ob q n hb hx
  · exact ⟨ob.slots, u.keep b ob q n hb hx⟩
theorem Un.trans (a : Un fs ex H H1 h h1) (b : Un fs ex H1 H2 h1 h2) : Un fs ex H H2 h h2 where
  keep := fun c ob q n hc hx => b.keep c ob (a.keep c ob q n hc hx) (a.free c ob q n hx) hc hx
  slot := fun c ob q n hc hx => by
    obtain ⟨sl, e1⟩ := a.slot c ob q n hc hx
    obtain ⟨sl', e2⟩ := b.slot c _ e1 (a.free c ob q n hx) hc hx
    exact ⟨sl', e2⟩
  free := fun c ob q n hx => by
    obtain ⟨o', e1⟩ := a.there c ob q hx
    exact b.free c o' e1 (a.free c ob q n hx) hx
  there := fun c ob q hx => by
    obtain ⟨o', e1⟩ := a.there c ob q hx
    exact b.there c o' e1 hx
  tups := fun c xs q => b.tups c xs (a.tups c xs q)
  frzs := fun c ob xs q => b.frzs c ob xs (a.frzs c ob xs q)
  tbls := fun c ps q => by
    obtain ⟨m1, e1⟩ := a.tbls c ps q
    obtain ⟨m2, e2⟩ := b.tbls c _ e1
    exact ⟨m1 ++ m2, by rw [e2, Array.append_assoc]⟩
theorem Un.kept (k : ∀ b u, h.get? b = some u → h'.get? b = some u) : Un fs ex H H h h' :=
  ⟨fun b ob q _ _ _ => k b ob q, fun b ob q _ _ _ => ⟨ob.slots, k b ob q⟩, fun _ _ _ n _ => n, fun b ob q _ => ⟨ob, k b ob q⟩, fun _ _ q => q, fun _ _ _ q => q, fun _ ps q => ⟨#[], by rw [q]; simp⟩⟩
theorem Un.refl : Un fs ex H H h h := Un.kept fun _ _ q => q
theorem Un.laid (k : ∀ b u, h.get? b = some u → h'.get? b = some u) (hp : h.objs.size ≤ a) (hn : H a = none) : Un fs ex H (upd H a o) h h' where
  keep := fun b u q _ _ _ => k b u q
  slot := fun b u q _ _ _ => ⟨u.slots, k b u q⟩
  free := fun b u q n _ => by rw [qP (Nat.ne_of_lt (Nat.lt_of_lt_of_le (Heap.lt_size q) hp))]; exact n
  there := fun b u q _ => ⟨u, k b u q⟩
  tups := fun b xs q => by rw [qP (qL q hn)]; exact q
  frzs := fun b u xs q => by rw [qP (qL q hn)]; exact q
  tbls := fun b ps q => ⟨#[], by rw [qP (qL q hn), q]; simp⟩
theorem Un.write (mu : Mut (H x)) (he : e = x ∨ H e = some (.own x)) (k : ∀ b u, b ≠ e → h.get? b = some u → h'.get? b = some u) (heo : ∃ u, h'.get? e = some u) : Un fs ex H (upd H x o) h h' := by
  have hx : ∀ b, H b = none → b ≠ x := fun b n z => by subst z; rw [n] at mu; exact mu
  have hb : ∀ b, H b = none → b ≠ e := fun b n z => by
    subst z
    rcases he with r | r
    · exact hx b n r
    · rw [n] at r; cases r
  have hm : ∀ b u, H b = some u → ¬ Mut (some u) → b ≠ x := fun b u q nm z => by subst z; rw [q] at mu; exact nm mu
  refine ⟨fun b u q n _ _ => k b u (hb b n) q, fun b u q n _ _ => ⟨u.slots, k b u (hb b n) q⟩, fun b u q n _ => by rw [qP (hx b n)]; exact n, fun b u q _ => ?_,
    fun b xs q => by rw [qP (hm b _ q fun z => z)]; exact q, fun b u xs q => by rw [qP (hm b _ q fun z => z)]; exact q, fun b ps q => ⟨#[], by rw [qP (hm b _ q fun z => z), q]; simp⟩⟩
  by_cases hbe : b = e
  · subst hbe; exact heo
  · exact ⟨u, k b u hbe q⟩
theorem Un.mono (u : Un fs ex H H1 h h1) (hs : ∀ b ∈ fs, b ∈ fs') (hx : ∀ b ∈ ex, b ∈ ex') : Un fs' ex' H H1 h h1 :=
  ⟨fun b ob q n hb he => u.keep b ob q n (fun z => hb (hs b z)) fun z => he (hx b z), fun _ _ q n _ he => u.any q n fun z => he (hx _ z), fun b ob q n he => u.free b ob q n fun z => he (hx b z), fun b ob q he => u.there b ob q fun z => he (hx b z), u.tups, u.frzs, u.tbls⟩
end
def trk (h : Heap) (H : Hp) : List Addr := (List.range h.objs.size).filter fun a => (H a).isSome
def wZ (h : Heap) (H : Hp) : Heap := PySem.W.hideAll h (trk h H)
theorem wG (h : Heap) (H : Hp) : (wZ h H).objs.size = h.objs.size := PySem.W.hideAll_size _ _
theorem wb {h : Heap} {H : Hp} {b : Addr} {o : Obj} (e : h.get? b = some o) (n : H b = none) : (wZ h H).get? b = some o :=
  PySem.W.hideAll_get _ e fun hm => by
    have q : (H b).isSome = true := (List.mem_filter.mp hm).2
    rw [n] at q; simp at q
theorem qA7 {h : Heap} {H : Hp} {b : Addr} {o : Obj} (e : (wZ h H).get? b = some o) : h.get? b = some o ∧ H b = none := by
  have e' : h.get? b = some o := PySem.W.of_hideAll (trk h H) e
  refine ⟨e', ?_⟩
  cases q : H b with
  | none => rfl
  | some x =>
    have hm : b ∈ trk h H := List.mem_filter.mpr ⟨List.mem_range.mpr (Heap.lt_size e'), by simp [q]⟩
    have z : (wZ h H).get? b = none := PySem.W.hideAll_none (trk h H) hm
    rw [z] at e; cases e
def qBe (g h : Heap) (L : Addr) : List (Addr × Obj) := (List.range h.objs.size).filterMap fun a => if a = L ∨ (g.get? a).isSome = true then none else (h.get? a).map fun o => (a, o)
def kD (g h : Heap) (L d : Addr) : List (Addr × Obj) := (qBe g h L).filter fun p => decide (p.1 ≠ d)
end L2
namespace L2
open PySem PySem.Spec PyProof.Rows
structure Mod (K : PySem.W.Frag) (mg : Str → Option Value) (base : Heap) : Prop where
  kin : K.In base
  glob : base.Ns mainGlobals mg
  blt : ∃ mb, base.Ns builtinsNs mb ∧ ∀ x : Str, x ≠ "__name__" → mb x = bootBuiltins x
  nolimit : base.NoLimit
structure Cx where
  prog : Program
  w : World
  K : PySem.W.Frag
  mg : Str → Option Value
  base : Heap
  A : Around
  N : List Str
  s₀ : Shared
  H₀ : Hp
  env : Env
  outer : List Env
  stack : List Env
  ex : List Addr
  fn : Str → Bool
  calm : Bool
  pn : List (Addr × Obj)
  xe : Value → Shared → Prop
def frs (l : List Env) : List Addr := l.filterMap (·.frame)
abbrev Cx.fs (X : Cx) : List Addr := frs X.outer
def Vis (sc : Scope) (x : Str) : Prop := sc.names.lookup x = some .local ∨ sc.names.lookup x = some .cell ∨ sc.names.lookup x = some .free
def Loc (sc : Scope) (x : Str) : Prop := sc.names.lookup x = some .local ∨ sc.names.lookup x = some .cell
def qD6 (env : Env) (h : Heap) (m : Str → Option Value) (x : Str) (u : Value) : Prop :=
  (env.kindOf x = some .local ∧ m x = some u) ∨ ((env.kindOf x = some .cell ∨ env.kindOf x = some .free) ∧ ∃ c, env.cells.lookup x = some c ∧ h.IsCell c (some u))
structure Cx.Ok (X : Cx) : Prop where
  mod : Mod X.K X.mg X.base
  kind : X.env.scope.kind = .function
  glob : X.env.globals = mainGlobals
  blt : X.env.builtins = builtinsNs
  above : X.s₀.heap.objs.size ≤ X.env.locals
  inj : ∀ x y c, X.env.cells.lookup x = some c → X.env.cells.lookup y = some c → x = y
  has : ∀ x, (X.env.kindOf x = some .cell ∨ X.env.kindOf x = some .free) → ∃ c, X.env.cells.lookup x = some c
  cab : ∀ x c, X.fn x = true → X.env.cells.lookup x = some c → X.s₀.heap.objs.size ≤ c
  hd : X.calm = true → X.A.handled = none
  frames : X.A.frames = some X.stack
  stk : X.stack = X.outer ∨ (X.stack = X.env :: X.outer ∧ X.env.frame = some X.env.locals)
  exf : ∀ b ∈ X.ex, b ≠ X.env.locals ∧ ∀ x c, X.env.cells.lookup x = some c → c ≠ b
  bs : ∀ b o, X.base.get? b = some o → X.s₀.heap.get? b = some o ∧ X.H₀ b = none
  bsz : X.base.objs.size ≤ X.s₀.heap.objs.size
  noex : ∀ b o, X.base.get? b = some o → b ∉ X.ex
  exfs : ∀ b ∈ X.ex, b ∉ X.fs
  funs : X.s₀.heap.FunFrames X.base X.outer
  frf : ∀ b ∈ X.fs, X.H₀ b = none
structure Inv (X : Cx) (pins : List (Addr × Obj)) (σ : List (Option V)) (H : Hp) (s : Shared) : Prop where
  ok : X.Ok
  os : s.os = X.s₀.os
  bare : AllBare s.gens
  base : Un X.fs X.ex X.H₀ H X.s₀.heap s.heap
  loc : ∃ m, s.heap.Ns X.env.locals m ∧ ∀ (i : Nat) (x : Str) (v : V), X.N[i]? = some x → σ[i]? = some (some v) → Vis X.env.scope x → ∃ u, RelV v u ∧ qD6 X.env s.heap m x u
  cell : ∀ x c, X.env.cells.lookup x = some c → ∃ v, s.heap.IsCell c v
  free : H X.env.locals = none
  freeC : ∀ x c, X.env.cells.lookup x = some c → H c = none
  pin : ∀ p ∈ X.pn ++ pins, s.heap.get? p.1 = some p.2 ∧ H p.1 = none ∧ p.1 ≠ X.env.locals ∧ p.1 ∉ X.fs ∧ ∀ v, p.2.data ≠ .cell v
  hok : HOk X.prog X.w H s.heap
  len : σ.length = X.N.length
section
variable {X : Cx} {pins : List (Addr × Obj)} {σ : List (Option V)} {H H' : Hp} {s : Shared} {h' : Heap}
theorem Cx.Ok.nofr (ok : X.Ok) {b : Addr} {o : Obj} (e : X.base.get? b = some o) : b ∉ X.fs := fun hb => by
  have := (ok.funs.mem hb).1
  rw [e] at this; cases this
theorem Inv.bs (I : Inv X pins σ H s) : ∀ b o, X.base.get? b = some o → s.heap.get? b = some o ∧ H b = none := fun b o e =>
  ⟨I.base.keep b o (I.ok.bs b o e).1 (I.ok.bs b o e).2 (I.ok.nofr e) (I.ok.noex b o e), I.base.free b o (I.ok.bs b o e).1 (I.ok.bs b o e).2 (I.ok.noex b o e)⟩
theorem Inv.bk (I : Inv X pins σ H s) : ∀ b o, X.base.get? b = some o → s.heap.get? b = some o := fun b o e => (I.bs b o e).1
theorem Inv.mod (I : Inv X pins σ H s) : Mod X.K X.mg X.base := I.ok.mod
theorem Inv.kIn (I : Inv X pins σ H s) : X.K.In s.heap := I.ok.mod.kin.keeps I.bk
theorem Inv.nolimit (I : Inv X pins σ H s) : s.heap.NoLimit := I.ok.mod.nolimit.keeps I.bk
theorem Inv.fr (I : Inv X pins σ H s) : ∃ m, Fr X.base X.env.locals s.heap m :=
  let ⟨m, hn, _⟩ := I.loc
  ⟨m, hn, I.bk, Nat.le_trans I.ok.bsz I.ok.above⟩
theorem Inv.lt (I : Inv X pins σ H s) : X.env.locals < s.heap.objs.size := let ⟨_, hn, _⟩ := I.loc; hn.lt
theorem Inv.sz (I : Inv X pins σ H s) : X.s₀.heap.objs.size ≤ s.heap.objs.size := Nat.le_trans I.ok.above (Nat.le_of_lt I.lt)
theorem Inv.nofs (I : Inv X pins σ H s) {a : Addr} (h : s.heap.objs.size ≤ a) : a ∉ X.fs := fun hb => by
  obtain ⟨_, o, ho, _⟩ := I.ok.funs.mem hb
  exact absurd (Nat.lt_of_lt_of_le (Heap.lt_size ho) (Nat.le_trans I.sz h)) (Nat.lt_irrefl _)
theorem Inv.cne (I : Inv X pins σ H s) : ∀ x c, X.env.cells.lookup x = some c → c ≠ X.env.locals := fun x c e z => by
  obtain ⟨v, o, ho, hd⟩ := I.cell x c e
  obtain ⟨m, ⟨o', es, ep, ho', hd', _⟩, _⟩ := I.loc
  rw [z, ho'] at ho; cases ho; rw [hd'] at hd; cases hd
theorem Inv.funs (I : Inv X pins σ H s) : s.heap.FunFrames X.base X.outer := by
  have all : ∀ (l : List Env), (∀ b ∈ frs l, b ∈ X.fs) → X.s₀.heap.FunFrames X.base l → s.heap.FunFrames X.base l := by
    intro l
    induction l with
    | nil => intro _ _; trivial
    | cons env r ih =>
      intro hs hl
      obtain ⟨hk, ⟨L, o, hf, hn, ho, hd⟩, hr⟩ := hl
      have hL : L ∈ X.fs := hs L (by unfold frs; rw [List.filterMap_cons, hf]; exact List.mem_cons_self)
      obtain ⟨sl, e⟩ := I.base.slot L o ho (I.ok.frf L hL) hL fun z => I.ok.exfs L z hL
      exact ⟨hk, ⟨L, _, hf, hn, e, hd⟩, ih (fun b hb => hs b (by unfold frs; rw [List.filterMap_cons, hf]; exact List.mem_cons_of_mem _ hb)) hr⟩
  exact all X.outer (fun _ hb => hb) I.ok.funs
theorem Inv.stack (I : Inv X pins σ H s) : s.heap.FunFrames X.base X.stack := by
  rcases I.ok.stk with e | ⟨e, hf⟩
  · rw [e]; exact I.funs
  · rw [e]
    obtain ⟨m, hn, _⟩ := I.loc
    refine .cons (by rw [I.ok.kind]; decide) hf hn ?_ I.funs
    exact Heap.get?_none_of_le (Nat.le_trans I.ok.bsz I.ok.above)
theorem Inv.stkSub (I : Inv X pins σ H s) : ∀ b ∈ frs X.stack, b ∈ X.env.locals :: X.fs := fun b hb => by
  rcases I.ok.stk with e | ⟨e, hf⟩
  · rw [e] at hb; exact List.mem_cons_of_mem _ hb
  · rw [e] at hb
    unfold frs at hb
    rw [List.filterMap_cons, hf] at hb
    exact hb
theorem Inv.stkFree (I : Inv X pins σ H s) : ∀ b ∈ frs X.stack, H b = none := fun b hb => by
  rcases List.mem_cons.mp (I.stkSub b hb) with e | hb
  · rw [e]; exact I.free
  · obtain ⟨_, o, ho, _⟩ := I.ok.funs.mem hb
    exact I.base.free b o ho (I.ok.frf b hb) fun z => I.ok.exfs b z hb
theorem Inv.step {g' : Array GenState} {t' : Nat} {d' : Drawn} {ch : List Addr} (I : Inv X pins σ H s)
    (hch : ∀ b ∈ ch, (b ∈ X.ex ∨ X.s₀.heap.objs.size ≤ b) ∧ b ≠ X.env.locals ∧ (∀ x c, X.env.cells.lookup x = some c → c ≠ b) ∧ ∀ p ∈ X.pn ++ pins, p.1 ≠ b)
    (keep : ∀ b o, b ≠ X.env.locals → b ∉ X.fs → b ∉ ch → s.heap.get? b = some o → H b = none → h'.get? b = some o)
    (slot : ∀ b o, b ≠ X.env.locals → b ∈ X.fs → b ∉ ch → s.heap.get? b = some o → H b = none → ∃ sl, h'.get? b = some { o with slots := sl }) (free : ∀ b o, b ∉ ch → s.heap.get? b = some o → H b = none → H' b = none)
    (there : ∀ b o, b ∉ ch → s.heap.get? b = some o → ∃ o', h'.get? b = some o')
    (tups : ∀ b xs, H b = some (.tup xs) → H' b = some (.tup xs)) (frzs : ∀ b o u, H b = some (.frz o u) → H' b = some (.frz o u)) (tbls : ∀ b ps, H b = some (.tbl ps) → ∃ more, H' b = some (.tbl (ps ++ more)))
    (ns : ∀ m, s.heap.Ns X.env.locals m → h'.Ns X.env.locals m) (hok : HOk X.prog X.w H' h') (hg : AllBare g') :
    Inv X pins σ H' { s with heap := h', gens := g', drawn := d', toks := t' } := by
  have neL : ∀ b o, X.s₀.heap.get? b = some o → b ≠ X.env.locals := fun b o e => Nat.ne_of_lt (Nat.lt_of_lt_of_le (Heap.lt_size e) I.ok.above)
  have neC : ∀ b o, X.s₀.heap.get? b = some o → b ∉ X.ex → b ∉ ch := fun b o e hx hb => by
    rcases (hch b hb).1 with z | z
    · exact hx z
    · exact absurd (Nat.lt_of_lt_of_le (Heap.lt_size e) z) (Nat.lt_irrefl _)
  have cellK : ∀ x c, X.env.cells.lookup x = some c → ∀ v, s.heap.IsCell c v → h'.IsCell c v := fun x c e v ⟨o, ho, hd⟩ => by
    have nch : c ∉ ch := fun z => (hch c z).2.2.1 x c e rfl
    by_cases hc : c ∈ X.fs
    · obtain ⟨sl, q⟩ := slot c o (I.cne x c e) hc nch ho (I.freeC x c e)
      exact ⟨_, q, hd⟩
    · exact ⟨o, keep c o (I.cne x c e) hc nch ho (I.freeC x c e), hd⟩
  refine ⟨I.ok, I.os, hg, ⟨fun b o e n hb hx => ?_, fun b o e n hb hx => ?_, fun b o e n hx => ?_, fun b o e hx => ?_, fun b xs e => tups b xs (I.base.tups b xs e), fun b o xs e => frzs b o xs (I.base.frzs b o xs e), fun b ps e => ?_⟩, ?_, fun x c e => ?_, ?_, fun x c e => ?_, fun p hp => ?_, hok, I.len⟩
  · exact keep b o (neL b o e) hb (neC b o e hx) (I.base.keep b o e n hb hx) (I.base.free b o e n hx)
  · obtain ⟨sl, e1⟩ := I.base.slot b o e n hb hx
    obtain ⟨sl', e2⟩ := slot b _ (neL b o e) hb (neC b o e hx) e1 (I.base.free b o e n hx)
    exact ⟨sl', e2⟩
  · obtain ⟨o', e1⟩ := I.base.there b o e hx
    exact free b o' (neC b o e hx) e1 (I.base.free b o e n hx)
  · obtain ⟨o', e1⟩ := I.base.there b o e hx
    exact there b o' (neC b o e hx) e1
  · obtain ⟨m1, e1⟩ := I.base.tbls b ps e
    obtain ⟨m2, e2⟩ := tbls b _ e1
    exact ⟨m1 ++ m2, by rw [e2, Array.append_assoc]⟩
  · obtain ⟨m, hn, hl⟩ := I.loc
    refine ⟨m, ns m hn, fun i x v e1 e2 e3 => ?_⟩
    obtain ⟨u, r, l⟩ := hl i x v e1 e2 e3
    refine ⟨u, r, ?_⟩
    rcases l with l | ⟨k, c, e, z⟩
    · exact .inl l
    · exact .inr ⟨k, c, e, cellK x c e _ z⟩
  · obtain ⟨v, z⟩ := I.cell x c e
    exact ⟨v, cellK x c e v z⟩
  · obtain ⟨m, ⟨o, _, _, ho, _⟩, _⟩ := I.loc
    exact free _ o (fun z => (hch _ z).2.1 rfl) ho I.free
  · obtain ⟨v, o, ho, hd⟩ := I.cell x c e
    exact free c o (fun z => (hch c z).2.2.1 x c e rfl) ho (I.freeC x c e)
  · obtain ⟨e, n, ne, nf, d⟩ := I.pin p hp
    have nch : p.1 ∉ ch := fun z => (hch p.1 z).2.2.2 p hp rfl
    exact ⟨keep p.1 p.2 ne nf nch e n, free p.1 p.2 nch e n, ne, nf, d⟩
theorem Inv.un {t' : Nat} (I : Inv X pins σ H s) (u : Un X.fs [] H H' s.heap h') (hok : HOk X.prog X.w H' h') : Inv X pins σ H' { s with heap := h', toks := t' } := by
  obtain ⟨m, ⟨o, es, ep, ho, r⟩, _⟩ := id I.loc
  obtain ⟨sl, hL⟩ := u.any ho I.free (by simp)
  exact I.step (g' := s.gens) (d' := s.drawn) (ch := []) (fun _ z => nomatch z) (fun b o _ hb _ e n => u.keep b o e n hb (by simp)) (fun b o _ hb _ e n => u.slot b o e n hb (by simp)) (fun b o _ e n => u.free b o e n (by simp)) (fun b o _ e => u.there b o e (by simp)) u.tups u.frzs u.tbls (fun m' hm => by
    obtain ⟨o', es', ep', ho', r'⟩ := hm
    rw [ho] at ho'; cases ho'
    exact ⟨_, es', ep', hL, r'⟩) hok I.bare
theorem Inv.call {g' : Array GenState} {t' : Nat} {d' : Drawn} {ch : List Addr} (I : Inv X pins σ H s) (u : Un (frs X.stack) ch H H' s.heap h') (hok : HOk X.prog X.w H' h') (hg : AllBare g')
    (hch : ∀ b ∈ ch, (b ∈ X.ex ∨ X.s₀.heap.objs.size ≤ b) ∧ b ≠ X.env.locals ∧ (∀ x c, X.env.cells.lookup x = some c → c ≠ b) ∧ ∀ p ∈ X.pn ++ pins, p.1 ≠ b) :
    Inv X pins σ H' { s with heap := h', gens := g', drawn := d', toks := t' } := by
  obtain ⟨m, ⟨o, es, ep, ho, r⟩, _⟩ := id I.loc
  obtain ⟨sl, hL⟩ := u.any ho I.free fun z => (hch _ z).2.1 rfl
  exact I.step (ch := ch) hch (fun b o hL hb hc e n => u.keep b o e n (fun z => (List.mem_cons.mp (I.stkSub b z)).elim hL hb) hc) (fun b o _ _ hc e n => u.any e n hc) (fun b o hc e n => u.free b o e n hc) (fun b o hc e => u.there b o e hc) u.tups u.frzs u.tbls (fun m' hm => by
    obtain ⟨o', es', ep', ho', r'⟩ := hm
    rw [ho] at ho'; cases ho'
    exact ⟨_, es', ep', hL, r'⟩) hok hg
theorem Inv.turned {t' : Nat} {it : Addr} (I : Inv X pins σ H s) (k : ∀ b o, b ≠ it → s.heap.get? b = some o → h'.get? b = some o) (hn : H it = none) (hL : it ≠ X.env.locals)
    (h1 : it ∈ X.ex ∨ X.s₀.heap.objs.size ≤ it) (h2 : ∀ x c, X.env.cells.lookup x = some c → c ≠ it) (h3 : ∀ p ∈ X.pn ++ pins, p.1 ≠ it) : Inv X pins σ H { s with heap := h', toks := t' } := by
  have nit : ∀ b u, H b = some u → b ≠ it := fun b u e z => by rw [z, hn] at e; cases e
  refine I.step (g' := s.gens) (d' := s.drawn) (ch := [it]) (fun b hb => ?_) (fun b o _ _ hc e _ => k b o (fun z => hc (by simp [z])) e) (fun b o _ _ hc e _ => ⟨o.slots, k b o (fun z => hc (by simp [z])) e⟩) (fun _ _ _ _ n => n)
    (fun b o hc e => ⟨o, k b o (fun z => hc (by simp [z])) e⟩) (fun _ _ e => e) (fun _ _ _ e => e) (fun b ps e => ⟨#[], by rw [e]; simp⟩) (fun m hm => ?_) (fun b u e => ?_) I.bare
  · have e : b = it := by simpa using hb
    subst e
    exact ⟨h1, hL, h2, h3⟩
  · obtain ⟨o, es, ep, ho, r⟩ := hm
    exact ⟨o, es, ep, k _ o (Ne.symm hL) ho, r⟩
  · refine (I.hok b u e).stay (fun c v hc q => k c v ?_ q) (fun _ q => q) fun _ _ q => q
    rcases hc with z | z
    · rw [z]; exact nit b u e
    · exact nit c _ z
theorem Inv.tok (I : Inv X pins σ H s) (t : Nat) : Inv X pins σ H { s with toks := t } := I.un (h' := s.heap) (t' := t) Un.refl I.hok
theorem Inv.kept {t' : Nat} (I : Inv X pins σ H s) (k : ∀ b u, s.heap.get? b = some u → h'.get? b = some u) : Inv X pins σ H { s with heap := h', toks := t' } := I.un (Un.kept k) (I.hok.kept k)
theorem Inv.laid {a : Addr} {o : HO} {t' : Nat} (I : Inv X pins σ H s) (k : ∀ b u, s.heap.get? b = some u → h'.get? b = some u) (hp : s.heap.objs.size ≤ a) (new : ObjOk X.prog X.w (upd H a o) h' a o) :
    Inv X pins σ (upd H a o) { s with heap := h', toks := t' } := I.un (Un.laid k hp (I.hok.fresh hp)) (I.hok.laid k hp new)
theorem Inv.write {x e : Addr} {o : HO} {t' : Nat} (I : Inv X pins σ H s) (mu : Mut (H x)) (he : e = x ∨ H e = some (.own x)) (k : ∀ b u, b ≠ e → s.heap.get? b = some u → h'.get? b = some u) (heo : ∃ u, h'.get? e = some u)
    (new : ObjOk X.prog X.w (upd H x o) h' x o) : Inv X pins σ (upd H x o) { s with heap := h', toks := t' } := I.un (Un.write mu he k heo) (I.hok.write mu he k heo new)
theorem Inv.weak {σ' : List (Option V)} (I : Inv X pins σ H s) (hl : σ'.length = σ.length) (w : ∀ (i : Nat) v, σ'[i]? = some (some v) → σ[i]? = some (some v)) : Inv X pins σ' H s :=
  ⟨I.ok, I.os, I.bare, I.base, let ⟨m, hn, hl'⟩ := I.loc; ⟨m, hn, fun i x v e1 e2 e3 => hl' i x v e1 (w i v e2) e3⟩, I.cell, I.free, I.freeC, I.pin, I.hok, hl.trans I.len⟩
theorem Inv.pins_of {pins' : List (Addr × Obj)} (I : Inv X pins σ H s) (h : ∀ p ∈ pins', s.heap.get? p.1 = some p.2 ∧ H p.1 = none ∧ p.1 ≠ X.env.locals ∧ p.1 ∉ X.fs ∧ ∀ v, p.2.data ≠ .cell v) : Inv X pins' σ H s :=
  ⟨I.ok, I.os, I.bare, I.base, I.loc, I.cell, I.free, I.freeC, fun p hp => (List.mem_append.mp hp).elim (fun z => I.pin p (List.mem_append_left _ z)) (h p), I.hok, I.len⟩
theorem zR {N : List Str} (hN : N.Nodup) {i j : Nat} {x : Str} (a : N[i]? = some x) (b : N[j]? = some x) : i = j := by
  obtain ⟨h1, e1⟩ := List.getElem?_eq_some_iff.mp a
  obtain ⟨h2, e2⟩ := List.getElem?_eq_some_iff.mp b
  exact (List.getElem_inj hN).mp (e1.trans e2.symm)
theorem wC {M : Model} {A : Around} {E : Value → Shared → Prop} {i : Nat} {x : Str} {v : V} {u : Value} {Q : Unit → Shared → Prop} (I : Inv X pins σ H s) (hN : X.N.Nodup) (hi : X.N[i]? = some x) (hx : Loc X.env.scope x) (r : RelV v u)
    (h : ∀ s', Inv X pins (σ.set i (some v)) H s' → (∃ a, Heap.SameBut a s.heap s'.heap ∧ (a = X.env.locals ∨ X.env.cells.lookup x = some a)) → Q () s') (hf : X.fn x = true ∨ X.env.scope.names.lookup x = some .local := by first | exact .inl rfl | exact .inr rfl | assumption) : wpAny M A (storeName X.env x u) Q E s := by
  obtain ⟨m, hn, hl⟩ := id I.loc
  have hcls : (X.env.scope.kind == .class || (X.env.scope.kind == .module && X.env.locals != X.env.globals)) = false := by rw [I.ok.kind]; rfl
  have hiσ : i < σ.length := by rw [I.len]; exact (List.getElem?_eq_some_iff.mp hi).1
  have cne := I.cne
  have tracked : ∀ {a : Addr} {h' : Heap}, (∃ o, s.heap.get? a = some o ∧ H a = none) → Heap.SameBut a s.heap h' → HOk X.prog X.w H h' := fun {a h'} ha hs b ob e => by
    obtain ⟨_, _, hfree⟩ := ha
    refine (I.hok b ob e).stay (fun c w' hc q => (hs.2 c ?_).trans q) (fun _ q => q) fun _ _ q => q
    rintro rfl
    rcases hc with rfl | hc
    · rw [hfree] at e; cases e
    · rw [hfree] at hc; cases hc
  rcases hx with hk | hk
  · refine wpAny_storeName_local hk hn (fun h' hn' hs => ?_) hcls
    obtain ⟨oL, _, _, hoL, _⟩ := id hn
    refine h _ ⟨I.ok, I.os, I.bare, ⟨fun b o e n hb hx => ?_, fun b o e n hb hx => ?_, I.base.free, fun b o e hx => ?_, I.base.tups, I.base.frzs, I.base.tbls⟩, ⟨_, hn', fun j y v' e1 e2 e3 => ?_⟩, fun y c e => ?_, I.free, I.freeC, fun p hp => ?_, tracked ⟨oL, hoL, I.free⟩ hs, by simpa using I.len⟩ ⟨_, hs, .inl rfl⟩
    · exact (hs.2 b (Nat.ne_of_lt (Nat.lt_of_lt_of_le (Heap.lt_size e) I.ok.above))).trans (I.base.keep b o e n hb hx)
    · obtain ⟨sl, e1⟩ := I.base.slot b o e n hb hx
      exact ⟨sl, (hs.2 b (Nat.ne_of_lt (Nat.lt_of_lt_of_le (Heap.lt_size e) I.ok.above))).trans e1⟩
    · obtain ⟨o', e1⟩ := I.base.there b o e hx
      exact ⟨o', (hs.2 b (Nat.ne_of_lt (Nat.lt_of_lt_of_le (Heap.lt_size e) I.ok.above))).trans e1⟩
    · by_cases hj : j = i
      · subst hj
        rw [hi] at e1; cases e1
        rw [List.getElem?_set_self hiσ] at e2
        cases e2
        exact ⟨u, r, .inl ⟨hk, by simp⟩⟩
      · rw [List.getElem?_set_ne (Ne.symm hj)] at e2
        obtain ⟨u', r', q⟩ := hl j y v' e1 e2 e3
        refine ⟨u', r', ?_⟩
        rcases q with ⟨k, e⟩ | ⟨k, c, e, z⟩
        · refine .inl ⟨k, ?_⟩
          have : y ≠ x := fun e => hj (zR hN e1 (e ▸ hi))
          simp [this, e]
        · exact .inr ⟨k, c, e, z.sameBut hs (cne y c e)⟩
    · obtain ⟨w', z⟩ := I.cell y c e
      exact ⟨w', z.sameBut hs (cne y c e)⟩
    · obtain ⟨e, n, ne, nf, d⟩ := I.pin p hp
      exact ⟨(hs.2 p.1 ne).trans e, n, ne, nf, d⟩
  · have hfn : X.fn x = true := by
      rcases hf with z | z
      · exact z
      · rw [z] at hk; cases hk
    obtain ⟨c, hc⟩ := I.ok.has x (.inl hk)
    obtain ⟨w', z⟩ := I.cell x c hc
    refine wpAny_storeName_cell I.ok.kind hk hc z (fun h' hc' hs => ?_)
    obtain ⟨oc, hoc, hocd⟩ := id z
    refine h { s with heap := h' } ⟨I.ok, I.os, I.bare, ⟨fun b o e n hb hx => ?_, fun b o e n hb hx => ?_, I.base.free, fun b o e hx => ?_, I.base.tups, I.base.frzs, I.base.tbls⟩, ⟨m, hn.sameBut hs (Ne.symm (cne x c hc)), fun j y v' e1 e2 e3 => ?_⟩, fun y c' e => ?_, I.free, I.freeC, fun p hp => ?_, tracked ⟨oc, hoc, I.freeC x c hc⟩ hs, by simpa using I.len⟩ ⟨c, hs, .inr hc⟩
    · exact (hs.2 b (Nat.ne_of_lt (Nat.lt_of_lt_of_le (Heap.lt_size e) (I.ok.cab x c hfn hc)))).trans (I.base.keep b o e n hb hx)
    · obtain ⟨sl, e1⟩ := I.base.slot b o e n hb hx
      exact ⟨sl, (hs.2 b (Nat.ne_of_lt (Nat.lt_of_lt_of_le (Heap.lt_size e) (I.ok.cab x c hfn hc)))).trans e1⟩
    · obtain ⟨o', e1⟩ := I.base.there b o e hx
      exact ⟨o', (hs.2 b (Nat.ne_of_lt (Nat.lt_of_lt_of_le (Heap.lt_size e) (I.ok.cab x c hfn hc)))).trans e1⟩
    · by_cases hj : j = i
      · subst hj
        rw [hi] at e1; cases e1
        rw [List.getElem?_set_self hiσ] at e2
        cases e2
        exact ⟨u, r, .inr ⟨.inl hk, c, hc, hc'⟩⟩
      · rw [List.getElem?_set_ne (Ne.symm hj)] at e2
        obtain ⟨u', r', q⟩ := hl j y v' e1 e2 e3
        refine ⟨u', r', ?_⟩
        rcases q with q | ⟨k, c', e, z'⟩
        · exact .inl q
        · refine .inr ⟨k, c', e, z'.sameBut hs ?_⟩
          rintro rfl
          exact hj (zR hN e1 (I.ok.inj _ _ _ e hc ▸ hi))
    · by_cases hcc : c' = c
      · subst hcc; exact ⟨_, hc'⟩
      · obtain ⟨w2, z2⟩ := I.cell y c' e
        exact ⟨w2, z2.sameBut hs hcc⟩
    · obtain ⟨e, n, ne, nf, d⟩ := I.pin p hp
      refine ⟨(hs.2 p.1 ?_).trans e, n, ne, nf, d⟩
      intro q
      rw [q, hoc] at e
      have q' : oc = p.2 := Option.some.inj e
      exact d w' (by rw [← q']; exact hocd)
theorem jm {M : Model} {A : Around} {E : Value → Shared → Prop} {i : Nat} {x : Str} {v : V} {u : Value} {Q : Unit → Shared → Prop} (I : Inv X pins σ H s) (hN : X.N.Nodup) (hi : X.N[i]? = some x) (hx : Loc X.env.scope x) (r : RelV v u)
    (h : ∀ s', Inv X pins (σ.set i (some v)) H s' → Q () s') (hf : X.fn x = true ∨ X.env.scope.names.lookup x = some .local := by first | exact .inl rfl | exact .inr rfl | assumption) : wpAny M A (storeName X.env x u) Q E s :=
  wC I hN hi hx r (fun s' I' _ => h s' I') hf
theorem Inv.call' {s' : Shared} {ch : List Addr} (I : Inv X pins σ H s) (ho : s'.os = s.os) (u : Un (frs X.stack) ch H H' s.heap s'.heap) (hok : HOk X.prog X.w H' s'.heap) (hg : AllBare s'.gens)
    (hch : ∀ b ∈ ch, (b ∈ X.ex ∨ X.s₀.heap.objs.size ≤ b) ∧ b ≠ X.env.locals ∧ (∀ x c, X.env.cells.lookup x = some c → c ≠ b) ∧ ∀ p ∈ X.pn ++ pins, p.1 ≠ b) : Inv X pins σ H' s' := by
  obtain ⟨h', g', d', t', o'⟩ := s'
  have e : o' = s.os := ho
  subst e
  exact I.call (g' := g') (t' := t') (d' := d') u hok hg hch
end
abbrev XK := Value → Option Addr → Hp → Prop
abbrev St := List (Option V)
abbrev VK := V → Hp → Prop
abbrev TE := St → Hp → VK → Prop
abbrev TT := St → Hp → (Bool → Hp → Prop) → Prop
abbrev TA := St → Hp → (List V → Hp → Prop) → Prop
structure wX where
  nx : St → Hp → Prop
  rt : VK
  bk : St → Hp → Prop := fun _ _ => False
  ct : St → Hp → Prop := fun _ _ => False
abbrev TS := wX → St → Hp → Prop
def EP (X : Cx) (pins : List (Addr × Obj)) (σ : St) (Q : VK) (u : Value) (s' : Shared) : Prop := ∃ v H', Inv X pins σ H' s' ∧ RelV v u ∧ Q v H'
def TP (X : Cx) (pins : List (Addr × Obj)) (σ : St) (Q : Bool → Hp → Prop) (b : Bool) (s' : Shared) : Prop := ∃ H', Inv X pins σ H' s' ∧ Q b H'
def AP (X : Cx) (pins : List (Addr × Obj)) (σ : St) (Q : List V → Hp → Prop) (us : List Value) (s' : Shared) : Prop := ∃ vs H', Inv X pins σ H' s' ∧ Vals vs us ∧ Q vs H'
def SP (X : Cx) (pins : List (Addr × Obj)) (D : wX) (f : Flow) (s' : Shared) : Prop :=
  match f with
  | .next => ∃ σ' H', Inv X pins σ' H' s' ∧ D.nx σ' H'
  | .brk => ∃ σ' H', Inv X pins σ' H' s' ∧ D.bk σ' H'
  | .cont => ∃ σ' H', Inv X pins σ' H' s' ∧ D.ct σ' H'
  | .ret u => ∃ v σ' H', Inv X pins σ' H' s' ∧ RelV v u ∧ D.rt v H'
def PE (X : Cx) (e : Expr) (t : TE) : Prop :=
  ∀ (pins : List (Addr × Obj)) (s : Shared) (σ : St) (H : Hp) (Q : VK), Inv X pins σ H s → t σ H Q → wpAny (model X.prog X.w) X.A (eval e X.env) (EP X pins σ Q) X.xe s
def PT (X : Cx) (e : Expr) (t : TT) : Prop :=
  ∀ (pins : List (Addr × Obj)) (s : Shared) (σ : St) (H : Hp) (Q : Bool → Hp → Prop), Inv X pins σ H s → t σ H Q → wpAny (model X.prog X.w) X.A (isTrue e X.env (eval e X.env)) (TP X pins σ Q) X.xe s
def PW (X : Cx) (e : Expr) (t : TT) : Prop :=
  ∀ (whole : Sem Value) (pins : List (Addr × Obj)) (s : Shared) (σ : St) (H : Hp) (Q : Bool → Hp → Prop), Inv X pins σ H s → t σ H Q → wpAny (model X.prog X.w) X.A (isTrue e X.env whole) (TP X pins σ Q) X.xe s
theorem PW.pt {X : Cx} {e : Expr} {t : TT} (h : PW X e t) : PT X e t := h _
def PA (X : Cx) (es : List Expr) (t : TA) : Prop :=
  ∀ (pos : Pos) (pins : List (Addr × Obj)) (s : Shared) (σ : St) (H : Hp) (Q : List V → Hp → Prop), Inv X pins σ H s → t σ H Q → wpAny (model X.prog X.w) X.A (spliced (backTo pos (starEach es X.env))) (AP X pins σ Q) X.xe s
def PS (X : Cx) (st : Stmt) (t : TS) : Prop :=
  ∀ (pins : List (Addr × Obj)) (s : Shared) (σ : St) (H : Hp) (D : wX), Inv X pins σ H s → t D σ H → wpAny (model X.prog X.w) X.A (exec st X.env) (SP X pins D) X.xe s
def PSs (X : Cx) (st : List Stmt) (t : TS) : Prop :=
  ∀ (pins : List (Addr × Obj)) (s : Shared) (σ : St) (H : Hp) (D : wX), Inv X pins σ H s → t D σ H → wpAny (model X.prog X.w) X.A (execs st X.env) (SP X pins D) X.xe s
theorem thn {α : Type} {t : Sem α} {Q Q' : α → Shared → Prop} {M : Model} {A : Around} {E : Value → Shared → Prop} {s : Shared} (h : wpAny M A t Q E s) (hQ : ∀ a s, Q a s → Q' a s) : wpAny M A t Q' E s := wpAny_mono h hQ fun _ _ x => x
end L2
namespace L2
open PySem PySem.Spec PyProof.Rows
section
variable {X : Cx}
def qDb (i : Nat) : TE := fun σ H Q => ∃ v, σ[i]? = some (some v) ∧ Q v H
def tC (v : V) : TE := fun _ H Q => Q v H
theorem qB1 {i : Nat} {x : Str} {pos : Pos} (hN : X.N[i]? = some x) (hv : Vis X.env.scope x) (hd : (x == ("__debug__" : Str)) = false := by decide) (hcd : (x == ("__classdict__" : Str)) = false := by decide) : PE X (.Name x pos) (qDb i) := by
  intro pins s σ H Q I h
  obtain ⟨v, e, h⟩ := h
  obtain ⟨m, hn, hl⟩ := I.loc
  obtain ⟨u, r, l⟩ := hl i x v hN e hv
  have fin : EP X pins σ Q u s := ⟨v, H, I, r, h⟩
  rcases l with ⟨hk, hm⟩ | ⟨hk, c, hc, hcell⟩
  · exact wpAny_Name (wpAny_loadName_local I.ok.kind hk hn hm fin) hd
  · rcases hk with hk | hk
    · exact wpAny_Name (wpAny_loadName_cell I.ok.kind hk hc hcell fin) hd
    · exact wpAny_Name (wpAny_loadName_free I.ok.kind hk hc hcell fin hcd) hd
theorem qB {i j pos} : PE X (.Constant (.int i) j pos) (tC (.int i)) := fun _ _ _ H _ I h => wpAny_Constant_int ⟨.int i, H, I.tok _, ⟨_, rfl⟩, h⟩
theorem xa {b j pos} : PE X (.Constant (.bool b) j pos) (tC (.bl b)) := fun _ _ _ H _ I h => Constant_bool ⟨.bl b, H, I, rfl, h⟩
theorem qCi {j pos} : PE X (.Constant .none j pos) (tC .non) := fun _ _ _ H _ I h => Constant_none ⟨.non, H, I, rfl, h⟩
theorem jB {x j pos} : PE X (.Constant (.str x) j pos) (tC (.str x)) := fun _ _ _ H _ I h => Calls.Constant_str ⟨.str x, H, I.tok _, ⟨_, rfl⟩, h⟩
def Gl (X : Cx) (x : Str) : Prop := X.env.kindOf x = some .globalImplicit
theorem zL {E : Value → Shared → Prop} {pins : List (Addr × Obj)} {s : Shared} {σ : St} {H : Hp} {x : Str} {u : Value} {pos : Pos} {Q : Value → Shared → Prop} (I : Inv X pins σ H s) (hg : Gl X x) (hm : X.mg x = some u) (h : Q u s)
    (hd : (x == ("__debug__" : Str)) = false := by decide) : wpAny (model X.prog X.w) X.A (eval (.Name x pos) X.env) Q E s :=
  Calls.Name_function_global I.ok.kind hg (Calls.loadGlobal_global (by rw [I.ok.glob]; exact I.mod.glob.keeps I.bk) hm h) hd
theorem vH {E : Value → Shared → Prop} {pins : List (Addr × Obj)} {s : Shared} {σ : St} {H : Hp} {x : Str} {u : Value} {pos : Pos} {Q : Value → Shared → Prop} (I : Inv X pins σ H s) (hg : Gl X x) (hm : X.mg x = none) (hv : bootBuiltins x = some u) (h : Q u s)
    (hn : x ≠ "__name__" := by decide) (hd : (x == ("__debug__" : Str)) = false := by decide) : wpAny (model X.prog X.w) X.A (eval (.Name x pos) X.env) Q E s := by
  obtain ⟨mb, h1, h2⟩ := I.mod.blt
  exact Calls.Name_function_global I.ok.kind hg (Calls.loadGlobal_builtin (by rw [I.ok.glob]; exact I.mod.glob.keeps I.bk) hm (by rw [I.ok.blt]; exact h1.keeps I.bk) ((h2 x hn).trans hv) h) hd
theorem xg {x : Str} {v : V} {u : Value} {pos : Pos} (hg : Gl X x) (hm : X.mg x = some u) (r : RelV v u) (hd : (x == ("__debug__" : Str)) = false := by decide) : PE X (.Name x pos) (tC v) :=
  fun _ _ _ H _ I h => zL I hg hm ⟨v, H, I, r, h⟩ hd
theorem qA4 {x : Str} {v : V} {u : Value} {pos : Pos} (hg : Gl X x) (hm : X.mg x = none) (hv : bootBuiltins x = some u) (r : RelV v u) (hn : x ≠ "__name__" := by decide) (hd : (x == ("__debug__" : Str)) = false := by decide) : PE X (.Name x pos) (tC v) :=
  fun _ _ _ H _ I h => vH I hg hm hv ⟨v, H, I, r, h⟩ hn hd
variable {a b : Expr} {ta tb : TE} {pos : Pos}
def PC (X : Cx) (op : CmpOp) (a b : Expr) (t : TE) : Prop :=
  ∀ (pins : List (Addr × Obj)) (s : Shared) (σ : St) (H : Hp) (Q : VK), Inv X pins σ H s → t σ H Q →
    wpAny (model X.prog X.w) X.A (eval a X.env) (fun v s₁ => wpAny (model X.prog X.w) X.A (eval b X.env) (fun u s₂ => wpAny (model X.prog X.w) X.A (compareOp op v u) (EP X pins σ Q) X.xe s₂) X.xe s₁) X.xe s
def tB (t : TE) : TT := fun σ H Q => t σ H fun x H1 => ∃ c, x = .bl c ∧ Q c H1
theorem jF {e : Expr} {t : TE} (h : PE X e t) (he : ∀ whole, isTrue e X.env whole = (do let v ← whole; standAt e.pos; holding [v] (truthy v)) := by intro _; rfl) : PT X e (tB t) := by
  intro pins s σ H Q I hw
  refine isTrue_plain (thn (h pins s σ H _ I hw) fun v s1 ⟨x, H1, I1, r1, q1⟩ => ?_) (he _)
  obtain ⟨d, rfl, q⟩ := q1
  cases r1
  exact wpAny_truthy_bool ⟨H1, I1, q⟩
variable {tA tB' : TT} {kD : List Expr}
def qD1 (t u : TT) : TT := fun σ H Q => t σ H fun c H1 => if c = true then u σ H1 Q else Q false H1
def tOr (t u : TT) : TT := fun σ H Q => t σ H fun c H1 => if c = true then Q true H1 else u σ H1 Q
def qD0 (t : TT) : TT := fun σ H Q => t σ H fun c H1 => Q (!c) H1
theorem xc (ha : PT X a tA) : PW X (.BoolOp .And [a] pos) tA := by
  intro wh pins s σ H Q I h
  refine isTrue_and (thn (ha pins s σ H Q I h) fun c s1 e => ?_)
  cases c with
  | true => exact isTrue_and_nil e
  | false => exact e
theorem ja (ha : PT X a tA) : PW X (.BoolOp .Or [a] pos) tA := by
  intro wh pins s σ H Q I h
  refine isTrue_or (thn (ha pins s σ H Q I h) fun c s1 e => ?_)
  cases c with
  | false => exact isTrue_or_nil e
  | true => exact e
theorem xw (ha : PT X a tA) (hb : PW X (.BoolOp .And (b :: kD) pos) tB') : PW X (.BoolOp .And (a :: b :: kD) pos) (qD1 tA tB') := by
  intro wh pins s σ H Q I h
  refine isTrue_and (thn (ha pins s σ H _ I h) fun c s1 ⟨H1, I1, q1⟩ => ?_)
  cases c with
  | true => exact hb wh pins s1 σ H1 Q I1 q1
  | false => exact ⟨H1, I1, q1⟩
theorem jf (ha : PT X a tA) (hb : PW X (.BoolOp .Or (b :: kD) pos) tB') : PW X (.BoolOp .Or (a :: b :: kD) pos) (tOr tA tB') := by
  intro wh pins s σ H Q I h
  refine isTrue_or (thn (ha pins s σ H _ I h) fun c s1 ⟨H1, I1, q1⟩ => ?_)
  cases c with
  | true => exact ⟨H1, I1, q1⟩
  | false => exact hb wh pins s1 σ H1 Q I1 q1
theorem jI (ha : PT X a tA) : PT X (.UnaryOp .Not a pos) (qD0 tA) := by
  intro pins s σ H Q I h
  exact isTrue_not (ha pins s σ H (fun c H1 => Q (!c) H1) I h)
def qC8 (ta tb : TE) : TE := fun σ H Q => ta σ H fun x H1 => ∃ c, x = .bl c ∧ if c = true then tb σ H1 Q else Q (.bl false) H1
def qCx (ta : TE) : TE := fun σ H Q => ta σ H fun x H1 => ∃ c, x = .bl c ∧ Q (.bl (!c)) H1
theorem kM {op} {t : TE} (h : PE X a t) : PE X (.BoolOp op [a] pos) t := fun pins s σ H Q I hw => BoolOp_one (h pins s σ H Q I hw)
theorem kA (ha : PE X a ta) (hb : PE X (.BoolOp .And (b :: kD) pos) tb) : PE X (.BoolOp .And (a :: b :: kD) pos) (qC8 ta tb) := by
  intro pins s σ H Q I h
  refine BoolOp_and (thn (ha pins s σ H _ I h) fun v s1 ⟨x, H1, I1, r1, q1⟩ => ?_)
  obtain ⟨c, rfl, q1⟩ := q1
  cases r1
  refine wpAny_truthy_bool ?_
  cases c with
  | true => exact hb pins s1 σ H1 Q I1 q1
  | false => exact ⟨.bl false, H1, I1, rfl, q1⟩
theorem wS (ha : PE X a ta) : PE X (.UnaryOp .Not a pos) (qCx ta) := by
  intro pins s σ H Q I h
  refine UnaryOp_ (thn (ha pins s σ H _ I h) fun v s1 ⟨x, H1, I1, r1, q1⟩ => ?_)
  obtain ⟨c, rfl, q1⟩ := q1
  cases r1
  exact not_of (wpAny_truthy_bool ⟨.bl (!c), H1, I1, rfl, q1⟩)
def tIf (t : TT) (ta tb : TE) : TE := fun σ H Q => t σ H fun c H1 => if c = true then ta σ H1 Q else tb σ H1 Q
theorem vC {c : Expr} (hc : PT X c tA) (ha : PE X a ta) (hb : PE X b tb) : PE X (.IfExp c a b pos) (tIf tA ta tb) := by
  intro pins s σ H Q I h
  refine wpAny_IfExp (thn (hc pins s σ H _ I h) fun d s1 ⟨H1, I1, q1⟩ => ?_)
  cases d with
  | true => exact ha pins s1 σ H1 Q I1 q1
  | false => exact hb pins s1 σ H1 Q I1 q1
end
end L2
namespace L2
open PySem PySem.Spec PyProof.Rows
def SqL (K : PySem.W.Frag) (H : Hp) (a : Addr) (xs : List V) : Prop :=
  Rd H a (.lst xs) ∨
    ∃ (o : Obj) (its : Array Value) (n : Nat), K.lookup a = some o ∧ o.cls = .type "list" ∧ o.dict = none ∧ o.data = .seq its n ∧ its.size ≤ sizeLine ∧ Vals xs its.toList
def SqT (K : PySem.W.Frag) (H : Hp) (a : Addr) (xs : List V) : Prop :=
  Rd H a (.tup xs) ∨
    ∃ (o : Obj) (its : Array Value) (n : Nat), K.lookup a = some o ∧ o.cls = .type "tuple" ∧ o.data = .seq its n ∧ its.size ≤ sizeLine ∧ Vals xs its.toList
def qD4 : Value → Option V
  | .none => some .non
  | .bool b => some (.bl b)
  | .int i _ => some (.int i)
  | .str x _ => some (.str x)
  | .bytes b _ => some (.byt b)
  | .float b _ => some (.flt b)
  | .ref a => some (.ref a)
  | .type n => some (.ty n)
  | _ => none
theorem RelV.abs {x : V} {u : Value} (r : RelV x u) : qD4 u = some x := by
  cases x with
  | non => cases r; rfl
  | bl _ => cases r; rfl
  | int _ => obtain ⟨t, rfl⟩ := r; rfl
  | str _ => obtain ⟨t, rfl⟩ := r; rfl
  | byt _ => obtain ⟨t, rfl⟩ := r; rfl
  | flt _ => obtain ⟨t, rfl⟩ := r; rfl
  | ref _ => cases r; rfl
  | ty _ => cases r; rfl
theorem RelV.inj {x y : V} {u : Value} (r : RelV x u) (q : RelV y u) : x = y := Option.some.inj (r.abs.symm.trans q.abs)
theorem Vals.inj : ∀ {xs ys : List V} {us : List Value}, Vals xs us → Vals ys us → xs = ys
  | _, _, _, .nil, .nil => rfl
  | _, _, _, .cons r t, .cons r' t' => by rw [r.inj r', Vals.inj t t']
section
variable {X : Cx} {pins : List (Addr × Obj)} {σ : St} {H : Hp} {s : Shared} {a : Addr} {xs ys : List V}
theorem SqL.of {K : PySem.W.Frag} (h : H a = some (.lst xs)) : SqL K H a xs := .inl (.inl h)
theorem SqT.of {K : PySem.W.Frag} (h : H a = some (.tup xs)) : SqT K H a xs := .inl (.inl h)
theorem Inv.list (I : Inv X pins σ H s) (h : SqL X.K H a xs) : ∃ its : List Value, Vals xs its ∧ PlainL s.heap a its.toArray ∧ xs.length ≤ sizeLine := by
  rcases h with h | ⟨o, its, n, hk, hc, hd, hs, hz, r⟩
  · obtain ⟨z, its, n, r, e⟩ := h.ok I.hok
    exact ⟨its, r, ⟨_, n, e, rfl, rfl, rfl⟩, z⟩
  · refine ⟨its.toList, r, ⟨o, n, I.kIn a o hk, hc, hd, by simpa using hs⟩, ?_⟩
    have e := r.length
    simp only [Array.length_toList] at e
    omega
theorem Inv.tuple (I : Inv X pins σ H s) (h : SqT X.K H a xs) : ∃ its : List Value, Vals xs its ∧ IsTup s.heap a its.toArray ∧ xs.length ≤ sizeLine := by
  rcases h with h | ⟨o, its, n, hk, hc, hs, hz, r⟩
  · obtain ⟨z, its, r, p⟩ := h.ok I.hok
    exact ⟨its, r, p, z⟩
  · refine ⟨its.toList, r, ⟨o, I.kIn a o hk, hc, n, by simpa using hs⟩, ?_⟩
    have e := r.length
    simp only [Array.length_toList] at e
    omega
theorem Inv.list_inj (I : Inv X pins σ H s) (h : SqL X.K H a xs) (h' : SqL X.K H a ys) : xs = ys := by
  obtain ⟨its, r, ⟨o, n, e, _, _, d⟩, _⟩ := I.list h
  obtain ⟨its', r', ⟨o', n', e', _, _, d'⟩, _⟩ := I.list h'
  rw [e] at e'; cases e'
  rw [d] at d'
  injection d' with d1 _
  have : its = its' := by simpa using congrArg Array.toList d1
  subst this
  exact r.inj r'
theorem Inv.tuple_inj (I : Inv X pins σ H s) (h : SqT X.K H a xs) (h' : SqT X.K H a ys) : xs = ys := by
  obtain ⟨its, r, ⟨o, e, _, n, d⟩, _⟩ := I.tuple h
  obtain ⟨its', r', ⟨o', e', _, n', d'⟩, _⟩ := I.tuple h'
  rw [e] at e'; cases e'
  rw [d] at d'
  injection d' with d1 _
  have : its = its' := by simpa using congrArg Array.toList d1
  subst this
  exact r.inj r'
end
abbrev Cx.wish (X : Cx) (E : Value → Shared → Prop) : Cx := { X with xe := E }
abbrev Cx.nox (X : Cx) : Cx := X.wish fun _ _ => False
theorem Cx.Ok.wish {X : Cx} (ok : X.Ok) (E : Value → Shared → Prop) : (X.wish E).Ok :=
  ⟨ok.mod, ok.kind, ok.glob, ok.blt, ok.above, ok.inj, ok.has, ok.cab, ok.hd, ok.frames, ok.stk, ok.exf, ok.bs, ok.bsz, ok.noex, ok.exfs, ok.funs, ok.frf⟩
theorem Cx.Ok.unwish {X : Cx} {E : Value → Shared → Prop} (ok : (X.wish E).Ok) : X.Ok :=
  ⟨ok.mod, ok.kind, ok.glob, ok.blt, ok.above, ok.inj, ok.has, ok.cab, ok.hd, ok.frames, ok.stk, ok.exf, ok.bs, ok.bsz, ok.noex, ok.exfs, ok.funs, ok.frf⟩
section
variable {X : Cx} {pins : List (Addr × Obj)} {σ : St} {H : Hp} {s : Shared} {E : Value → Shared → Prop}
theorem Inv.wish (I : Inv X pins σ H s) (E : Value → Shared → Prop) : Inv (X.wish E) pins σ H s := ⟨I.ok.wish E, I.os, I.bare, I.base, I.loc, I.cell, I.free, I.freeC, I.pin, I.hok, I.len⟩
theorem Inv.unwish (I : Inv (X.wish E) pins σ H s) : Inv X pins σ H s := ⟨I.ok.unwish, I.os, I.bare, I.base, I.loc, I.cell, I.free, I.freeC, I.pin, I.hok, I.len⟩
theorem SP.unwish {D : wX} {f : Flow} {s' : Shared} (h : SP (X.wish E) pins D f s') : SP X pins D f s' := by
  cases f with
  | next => obtain ⟨σ', H', I, q⟩ := h; exact ⟨σ', H', I.unwish, q⟩
  | brk => obtain ⟨σ', H', I, q⟩ := h; exact ⟨σ', H', I.unwish, q⟩
  | cont => obtain ⟨σ', H', I, q⟩ := h; exact ⟨σ', H', I.unwish, q⟩
  | ret u => obtain ⟨v, σ', H', I, r, q⟩ := h; exact ⟨v, σ', H', I.unwish, r, q⟩
theorem PE.nox {e : Expr} {t : TE} (h : PE X.nox e t) : PE X e t := fun pins s σ H Q I hw =>
  wpAny_mono (h pins s σ H Q (I.wish _) hw) (fun _ _ ⟨v, H', I', r, q⟩ => ⟨v, H', I'.unwish, r, q⟩) fun _ _ z => False.elim z
theorem PT.nox {e : Expr} {t : TT} (h : PT X.nox e t) : PT X e t := fun pins s σ H Q I hw =>
  wpAny_mono (h pins s σ H Q (I.wish _) hw) (fun _ _ ⟨H', I', q⟩ => ⟨H', I'.unwish, q⟩) fun _ _ z => False.elim z
theorem PSs.nox {st : List Stmt} {t : TS} (h : PSs X.nox st t) : PSs X st t := fun pins s σ H D I hw =>
  wpAny_mono (h pins s σ H D (I.wish _) hw) (fun _ _ q => q.unwish) fun _ _ z => False.elim z
end
section
variable {X : Cx} {st : Stmt} {kD : List Stmt} {t u : TS} {e : Expr} {te : TE} {pos : Pos}
def qC0 : TS := fun D σ H => D.nx σ H
def qDo (t u : TS) : TS := fun D σ H => t { D with nx := u D } σ H
theorem qc : PSs X [] qC0 := fun _ _ σ H _ I h => wpAny_execs_nil ⟨σ, H, I, h⟩
theorem qG (h1 : PS X st t) (h2 : PSs X kD u) : PSs X (st :: kD) (qDo t u) := by
  intro pins s σ H D I h
  refine wpAny_execs_cons (thn (h1 pins s σ H { D with nx := u D } I h) fun f s1 q => ?_)
  cases f with
  | next =>
    obtain ⟨σ', H', I', q⟩ := q
    exact h2 pins s1 σ' H' D I' q
  | ret v => exact q
  | brk => exact q
  | cont => exact q
theorem qH (h1 : PS X st t) : PSs X [st] t := by
  intro pins s σ H D I h
  refine wpAny_execs_cons (thn (h1 pins s σ H D I h) fun f s1 q => ?_)
  cases f with
  | next => exact wpAny_execs_nil q
  | ret v => exact q
  | brk => exact q
  | cont => exact q
theorem Inv.quiet {pins : List (Addr × Obj)} {σ : St} {H : Hp} {s : Shared} (I : Inv X pins σ H s) : interactive X.env = false := by simp [interactive, I.ok.kind]
def qCs (te : TE) : TS := fun D σ H => te σ H fun _ H1 => D.nx σ H1
theorem jl (he : PE X e te) (hs : swapsWith e none pos.line X.env = pure false := by rfl) : PS X (.Expr e pos) (qCs te) := by
  intro pins s σ H D I h
  exact wpAny_Expr_any (thn (he pins s σ H _ I h) fun v s1 ⟨x, H1, I1, r1, q1⟩ => ⟨σ, H1, I1, q1⟩) I.quiet hs
def qD7 (te : TE) : TS := fun D σ H => te σ H D.rt
theorem qX (he : PE X e te) : PS X (.Return (some e) pos) (qD7 te) := by
  intro pins s σ H D I h
  exact wpAny_Return_some (thn (he pins s σ H _ I h) fun v s1 ⟨x, H1, I1, r1, q1⟩ => ⟨x, σ, H1, I1, r1, q1⟩)
def qD5 (c : TT) (t u : TS) : TS := fun D σ H => c σ H fun b H1 => if b = true then t D σ H1 else u D σ H1
theorem jQ {c : Expr} {a b : List Stmt} {tc : TT} (hc : PT X c tc) (ha : PSs X a t) (hb : PSs X b u) : PS X (.If c a b pos) (qD5 tc t u) := by
  intro pins s σ H D I h
  refine wpAny_If (thn (hc pins s σ H _ I h) fun d s1 ⟨H1, I1, q1⟩ => ?_)
  cases d with
  | true => exact ha pins s1 σ H1 D I1 q1
  | false => exact hb pins s1 σ H1 D I1 q1
def qCh : TS := fun _ _ _ => False
theorem xD {sts : List Stmt} : PSs X sts qCh := fun _ _ _ _ _ _ h => h.elim
end
abbrev TG := V → St → Hp → (St → Hp → Prop) → Prop
abbrev TGs := List V → St → Hp → (St → Hp → Prop) → Prop
def PG (X : Cx) (target : Expr) (t : TG) : Prop :=
  ∀ (pins : List (Addr × Obj)) (s : Shared) (σ : St) (H : Hp) (v : V) (u : Value) (Q : St → Hp → Prop), Inv X pins σ H s → RelV v u → t v σ H Q →
    wpAny (model X.prog X.w) X.A (assign target X.env u) (fun _ s' => ∃ σ' H', Inv X pins σ' H' s' ∧ Q σ' H') X.xe s
def PGs (X : Cx) (ts : List Expr) (t : TGs) : Prop :=
  ∀ (pins : List (Addr × Obj)) (s : Shared) (σ : St) (H : Hp) (vs : List V) (us : List Value) (Q : St → Hp → Prop), Inv X pins σ H s → Vals vs us → t vs σ H Q →
    wpAny (model X.prog X.w) X.A (assignInOrder ((assignEach ts X.env).map (·.2)) us) (fun _ s' => ∃ σ' H', Inv X pins σ' H' s' ∧ Q σ' H') X.xe s
section
variable {X : Cx} {pos : Pos}
def wJ (i : Nat) : TG := fun v σ H Q => Q (σ.set i (some v)) H
theorem jP {i : Nat} {x : Str} (hN : X.N.Nodup) (hi : X.N[i]? = some x) (hx : Loc X.env.scope x) (hf : X.fn x = true ∨ X.env.scope.names.lookup x = some .local := by first | exact .inl rfl | exact .inr rfl | assumption) : PG X (.Name x pos) (wJ i) := by
  intro pins s σ H v u Q I r h
  exact wpAny_assign_Name (jm I hN hi hx r (fun s' I' => ⟨_, H, I', h⟩) hf)
def qDl : TGs := fun vs σ H Q => vs = [] ∧ Q σ H
def wx (t : TG) (u : TGs) : TGs := fun vs σ H Q => ∃ v r, vs = v :: r ∧ t v σ H fun σ' H' => u r σ' H' Q
theorem km : PGs X [] qDl := by
  intro pins s σ H vs us Q I r h
  obtain ⟨e, h⟩ := h
  subst e
  cases r
  exact assignInOrder_nil ⟨σ, H, I, h⟩
theorem jb {e : Expr} {es : List Expr} {t : TG} {u : TGs} (h1 : PG X e t) (h2 : PGs X es u)
    (hs : (assignEach (e :: es) X.env).map (·.2) = assign e X.env :: (assignEach es X.env).map (·.2) := by rfl) : PGs X (e :: es) (wx t u) := by
  intro pins s σ H vs us Q I r h
  obtain ⟨v, vr, e1, h⟩ := h
  subst e1
  cases r with
  | cons r rr =>
    rw [hs]
    refine assignInOrder_cons (thn (h1 pins s σ H _ _ _ I r h) fun _ s1 ⟨σ1, H1, I1, q1⟩ => ?_)
    exact h2 pins s1 σ1 H1 _ _ Q I1 rr q1
def qDg (K : PySem.W.Frag) (n : Nat) (t : TGs) : TG := fun v σ H Q => ∃ a xs, v = .ref a ∧ SqT K H a xs ∧ xs.length = n ∧ t xs σ H Q
theorem v3 {es : List Expr} {k : Nat} {t : TGs} {n : Nat} (hc : X.calm = true) (h : PGs X es t)
    (hn : (assignEach es X.env).length = n := by rfl) (hst : (assignEach es X.env).findIdx? (·.1) = none := by rfl) : PG X (.Tuple es k pos) (qDg X.K n t) := by
  intro pins s σ H v u Q I r hw
  obtain ⟨a, xs, e1, hq, hl, hw⟩ := hw
  subst e1
  cases r
  obtain ⟨its, rv, ht, hz⟩ := I.tuple hq
  refine assign_Tuple_tuple (I.ok.hd hc) ht (by simp [hn, ← hl, rv.length]) hst fun h' hx => ?_
  have I1 : Inv X pins σ H { s with heap := h' } := I.kept (t' := s.toks) fun b o e => hx b o (Nat.ne_of_lt (Heap.lt_size e)) e
  exact h pins _ σ H xs _ Q I1 (by simpa using rv) hw
def qDh (te : TE) (g : TG) : TS := fun D σ H => te σ H fun x H1 => g x σ H1 D.nx
theorem qAk {tg e : Expr} {te : TE} {g : TG} (he : PE X e te) (hg : PG X tg g) (hs : swapsWithSole [tg] e pos.line X.env = pure false := by rfl) (hw : swappedStores [tg] e X.env = pure none := by rfl)
    (h1 : (assignEach [tg] X.env).map (·.2) = [assign tg X.env] := by rfl) : PS X (.Assign [tg] e pos) (qDh te g) := by
  intro pins s σ H D I h
  refine wpAny_Assign_stores (thn (he pins s σ H _ I h) fun v s1 ⟨x, H1, I1, r1, q1⟩ => ?_) hs hw
  rw [h1]
  exact thn (hg pins s1 σ H1 x v _ I1 r1 q1) fun _ s2 q => q
theorem qY {i : Nat} {x : Str} {e : Expr} {te : TE} {pos' : Pos} (hN : X.N.Nodup) (hi : X.N[i]? = some x) (hx : Loc X.env.scope x) (he : PE X e te) (hs : swapsWith e (some (.Name x pos')) pos.line X.env = pure false := by rfl) (hf : X.fn x = true ∨ X.env.scope.names.lookup x = some .local := by first | exact .inl rfl | exact .inr rfl | assumption) :
    PS X (.Assign [.Name x pos'] e pos) (qDh te (wJ i)) := by
  intro pins s σ H D I h
  refine wpAny_Assign_Name (thn (he pins s σ H _ I h) fun v s1 ⟨y, H1, I1, r1, q1⟩ => ?_) hs
  exact jm I1 hN hi hx r1 (fun s2 I2 => ⟨_, H1, I2, q1⟩) hf
def qDr (i j : Nat) (ta : TA) : TS := fun D σ H => ta σ H fun vs H1 => ∃ v w, vs = [v, w] ∧ D.nx ((σ.set i (some v)).set j (some w)) H1
theorem qBx {i j : Nat} {x y : Str} {a b : Expr} {ta : TA} {px py pt : Pos} {kt k2 pt2} (hc : X.calm = true) (hN : X.N.Nodup) (hi : X.N[i]? = some x) (hj : X.N[j]? = some y) (hij : i ≠ j)
    (hx : X.env.scope.names.lookup x = some .local) (hy : X.env.scope.names.lookup y = some .local) (ha : PA X [a, b] ta)
    (hw : swappedStores [.Tuple [.Name x px, .Name y py] kt pt] (.Tuple [a, b] k2 pt2) X.env = pure (some [x, y]))
    (hs : swapsWithSole [.Tuple [.Name x px, .Name y py] kt pt] (.Tuple [a, b] k2 pt2) pos.line X.env = pure false := by rfl) :
    PS X (.Assign [.Tuple [.Name x px, .Name y py] kt pt] (.Tuple [a, b] k2 pt2) pos) (qDr i j ta) := by
  intro pins s σ H D I h
  rw [exec_Assign_arm]
  refine wpAny_bind (wpAny_standAt ?_)
  rw [hs]
  refine wpAny_bind (wpAny_pure ?_)
  rw [if_neg (by decide)]
  refine wpAny_bind (Tuple_ (thn (ha _ pins s σ H _ I h) fun us s1 ⟨vs, H1, I1, r1, q1⟩ => ?_))
  obtain ⟨v, w, e1, q1⟩ := q1
  subst e1
  obtain ⟨u1, u2, rfl, rv, rw'⟩ : ∃ u1 u2, us = [u1, u2] ∧ RelV v u1 ∧ RelV w u2 := by
    cases r1 with
    | cons p q =>
      cases q with
      | cons p' q' =>
        cases q'
        exact ⟨_, _, rfl, p, p'⟩
  refine wpAny_newObj_type ?_ (by show 2 ≤ sizeLine; decide)
  have I2 : Inv X pins σ H1 { s1 with heap := s1.heap.push { cls := .type "tuple", data := .seq [u1, u2].toArray } } := I1.kept (t' := s1.toks) fun b o e => Heap.get?_push_of_some _ e
  rw [hw]
  refine wpAny_bind (wpAny_pure ?_)
  show wpAny (model X.prog X.w) X.A (do rule "assign.swapped-stores"; let items ← unpackItems (.ref s1.heap.objs.size) 2 none; assignInOrder [fun v => bindName X.env y v, fun v => bindName X.env x v] items.reverse; pure Flow.next) _ _ _
  refine wpAny_bind (wpAny_rule (wpAny_bind (unpackItems_tuple (items := #[u1, u2]) (I.ok.hd hc) (IsTup.new s1.heap _) fun h' hx' => ?_)))
  have I3 := I2.kept (h' := h') (t' := s1.toks) fun b o e => hx' b o (Nat.ne_of_lt (Heap.lt_size e)) e
  show wpAny _ _ (assignInOrder [fun v => bindName X.env y v, fun v => bindName X.env x v] [u2, u1] >>= fun _ => pure Flow.next) _ _ _
  refine wpAny_bind (assignInOrder_cons (wpAny_bindName (jm I3 hN hj (.inl hy) rw' (fun s2 I4 => ?_) (.inr hy))))
  refine assignInOrder_cons (wpAny_bindName (jm I4 hN hi (.inl hx) rv (fun s3 I5 => assignInOrder_nil (wpAny_pure ?_)) (.inr hx)))
  rw [List.set_comm _ _ (Ne.symm hij)] at I5
  exact ⟨_, H1, I5, q1⟩
end
section
variable {X : Cx} {pos : Pos}
def qAn (c : TT) (tb : TS) : TS := fun D σ H => ∃ W : Nat → St → Hp → Prop, (∃ m, W m σ H) ∧ ∀ m σ H, W m σ H →
  c σ H fun b H1 => if b = true then ∃ N : St → Hp → Prop, (∀ σ' H', N σ' H' → ∃ m', m' < m ∧ W m' σ' H') ∧ tb { D with nx := N, ct := N, bk := D.nx } σ H1 else D.nx σ H1
theorem vP {c : Expr} {body : List Stmt} {tc : TT} {tb : TS} (hp : PassesOwn (model X.prog X.w) X.A X.env X.xe) (hc : PT X c tc) (hb : PSs X body tb) : PS X (.While c body [] pos) (qAn tc tb) := by
  intro pins s σ H D I h
  obtain ⟨W, ⟨m0, w0⟩, turn⟩ := h
  refine wpAny_While (codeAny_whileLoop (fun n s' => ∃ σ' H', Inv X pins σ' H' s' ∧ W n σ' H') ?_ m0 ⟨σ, H, I, w0⟩)
  rintro n s1 ⟨σ1, H1, I1, w1⟩
  refine wpAny_passesOwn hp (thn (hc pins s1 σ1 H1 _ I1 (turn n σ1 H1 w1)) fun b s2 ⟨H2, I2, q2⟩ => ?_)
  cases b with
  | true =>
    obtain ⟨N, hN, q2⟩ := q2
    rw [if_pos rfl]
    refine wpAny_passesOwn hp (thn (hb pins s2 σ1 H2 _ I2 q2) fun f s3 q3 => ?_)
    cases f with
    | next =>
      obtain ⟨σ3, H3, I3, n3⟩ := q3
      obtain ⟨m', hm, w3⟩ := hN σ3 H3 n3
      exact ⟨m', hm, σ3, H3, I3, w3⟩
    | cont =>
      obtain ⟨σ3, H3, I3, n3⟩ := q3
      obtain ⟨m', hm, w3⟩ := hN σ3 H3 n3
      exact ⟨m', hm, σ3, H3, I3, w3⟩
    | brk => exact q3
    | ret v => exact q3
  | false =>
    rw [if_neg Bool.false_ne_true]
    exact wpAny_execs_nil ⟨σ1, H2, I2, q2⟩
end
structure It where
  go : Nat → Hp → Prop
  yld : Nat → Hp → V → Hp → Prop
  stop : Nat → Hp → Prop
def qAi (X : Cx) (pins : List (Addr × Obj)) (H : Hp) (b : Addr) : Prop :=
  H b = none ∧ b ≠ X.env.locals ∧ b ∉ X.fs ∧ (b ∈ X.ex ∨ X.s₀.heap.objs.size ≤ b) ∧ (∀ x c, X.env.cells.lookup x = some c → c ≠ b) ∧ ∀ p ∈ X.pn ++ pins, p.1 ≠ b
theorem Inv.fpOk {X : Cx} {pins : List (Addr × Obj)} {σ : St} {H H' : Hp} {s : Shared} {b : Addr} (I : Inv X pins σ H s) (hb : s.heap.objs.size ≤ b) (hn : H' b = none) : qAi X pins H' b := by
  refine ⟨hn, Nat.ne_of_gt (Nat.lt_of_lt_of_le I.lt hb), I.nofs hb, .inr (Nat.le_trans I.sz hb), fun x c e z => ?_, fun p hp z => ?_⟩
  · obtain ⟨v, q⟩ := I.cell x c e
    exact absurd (Nat.lt_of_lt_of_le q.lt (by rw [z]; exact hb)) (Nat.lt_irrefl _)
  · exact absurd (Nat.lt_of_lt_of_le (Heap.lt_size (I.pin p hp).1) (by rw [z]; exact hb)) (Nat.lt_irrefl _)
structure qC1 (P : Program) (w : World) (K : PySem.W.Frag) (tg : Expr) (J : It) (fp : List Addr) (it : Addr) (tn : Nat → Heap → Prop) : Prop where
  mem : it ∈ fp
  obj : ∀ i h, tn i h → ∀ b ∈ fp, ∃ o, h.get? b = some o ∧ ∀ v, o.data ≠ .cell v
  keep : ∀ i h h', tn i h → (∀ b ∈ fp, ∀ o, h.get? b = some o → h'.get? b = some o) → tn i h'
  item : ∀ (X : Cx), X.prog = P → X.w = w → X.K = K → X.calm = true → ∀ (i : Nat) (pins : List (Addr × Obj)) (s : Shared) (σ : St) (H : Hp) (E : Value → Shared → Prop), Inv X pins σ H s → (∀ b ∈ fp, qAi X pins H b) → tn i s.heap → J.go i H →
    wpAny (model P w) X.A (pyNext (.ref it)) (fun r s1 => ∃ u, r = some u ∧
      wpAny (model P w) X.A (letOwnedTupleGo tg (.ref it) u) (fun _ s2 => ∃ x H', Inv X pins σ H' s2 ∧ RelV x u ∧ J.yld i H x H' ∧ tn (i + 1) s2.heap ∧ ∀ b ∈ fp, H' b = none) E s1) E s
  done : ∀ (X : Cx), X.prog = P → X.w = w → X.K = K → X.calm = true → ∀ (i : Nat) (pins : List (Addr × Obj)) (s : Shared) (σ : St) (H : Hp) (E : Value → Shared → Prop), Inv X pins σ H s → (∀ b ∈ fp, qAi X pins H b) → tn i s.heap → J.stop i H →
    wpAny (model P w) X.A (pyNext (.ref it)) (fun r s1 => r = none ∧ Inv X pins σ H s1) E s
  self : ∀ (A : Around) (i : Nat) (s : Shared) (Q : Value → Shared → Prop) (E : Value → Shared → Prop), tn i s.heap → Q (.ref it) s → wpAny (model P w) A (pyIter (.ref it)) Q E s
abbrev TI := St → Hp → (It → Hp → Prop) → Prop
def PIE (X : Cx) (pins : List (Addr × Obj)) (σ : St) (tg : Expr) (R : It → Hp → Prop) (itv : Value) (s2 : Shared) : Prop :=
  ∃ (it : Addr) (fp : List Addr) (tn : Nat → Heap → Prop) (J : It) (H' : Hp), itv = .ref it ∧ Inv X pins σ H' s2 ∧ qC1 X.prog X.w X.K tg J fp it tn ∧ tn 0 s2.heap ∧ (∀ b ∈ fp, qAi X pins H' b) ∧ R J H'
def PI (X : Cx) (tg iter : Expr) (wi : TI) : Prop :=
  ∀ (pins : List (Addr × Obj)) (s : Shared) (σ : St) (H : Hp) (R : It → Hp → Prop), Inv X pins σ H s → wi σ H R →
    wpAny (model X.prog X.w) X.A (eval iter X.env) (fun v s1 => wpAny (model X.prog X.w) X.A (pyIter v) (PIE X pins σ tg R) X.xe s1) X.xe s
theorem qCk {M : Model} {A : Around} {E : Value → Shared → Prop} {s : Shared} {tg : Expr} {it : Addr} {u : Value} {o : Obj} {n : String} {vs : Array Value} {Q : Unit → Shared → Prop} (ho : s.heap.get? it = some o) (hc : o.cls = .type n) (hd : o.data = .fields vs)
    (hn : ["enumerate", "zip", "dict_itemiterator", "dict_reverseitemiterator", "odict_iterator", "itertools.zip_longest", "itertools.pairwise"].contains n = false) (hQ : Q () s) : wpAny M A (letOwnedTupleGo tg (.ref it) u) Q E s := by
  unfold letOwnedTupleGo
  cases tg <;> first
    | exact wpAny_pure hQ
    | (cases u <;> first
        | exact wpAny_pure hQ
        | (refine wpAny_bind (wpAny_load ho ?_)
           rw [hc, hd]
           show wpAny M A (if (["enumerate", "zip", "dict_itemiterator", "dict_reverseitemiterator", "odict_iterator", "itertools.zip_longest", "itertools.pairwise"].contains n && vs[0]? == some (rawInt _)) = true then _ else _) Q E s
           rw [if_neg (by intro h; rw [hn, Bool.false_and] at h; cases h)]
           exact wpAny_pure hQ))
def Itl (K : PySem.W.Frag) (a : Addr) : It :=
  ⟨fun i H => ∃ xs x, SqL K H a xs ∧ xs[i]? = some x, fun i H x H' => H' = H ∧ ∀ xs, SqL K H a xs → xs[i]? = some x, fun i H => ∃ xs, SqL K H a xs ∧ xs.length ≤ i⟩
def Itr (lo : Int) (n : Nat) : It := ⟨fun i _ => i < n, fun i H x H' => H' = H ∧ x = .int (lo + i), fun i _ => n ≤ i⟩
theorem v4 {P : Program} {w : World} {K : PySem.W.Frag} {tg : Expr} (a it : Addr) : qC1 P w K tg (Itl K a) [it] it (fun i h => h.IsListIter it a i) where
  mem := by simp
  obj := fun i h st b hb => by
    have e : b = it := by simpa using hb
    subst e
    obtain ⟨o, e, c, d⟩ := st
    exact ⟨o, e, fun v z => by rw [d] at z; cases z⟩
  keep := fun i h h' st k => st.at fun o e => k it (by simp) o e
  item := by
    intro X hP hw hK hc i pins s σ H E I hf st hg
    subst hP hw hK
    obtain ⟨xs, x, hq, hx⟩ := hg
    obtain ⟨its, rv, p, hz⟩ := I.list hq
    obtain ⟨u, hu, ru⟩ := rv.get hx
    obtain ⟨f0, f1, f2, f3, f4, f5⟩ := hf it (by simp)
    refine wpAny_pyNext_list_item st p.isList (x := u) (by simpa using hu) fun h' st' sb => ?_
    have I1 : Inv X pins σ H { s with heap := h' } := I.turned (t' := s.toks) (fun b o hb e => (sb.2 b hb).trans e) f0 f1 f3 f4 f5
    obtain ⟨o, e, c, d⟩ := id st'
    exact ⟨u, rfl, qCk (s := { s with heap := h' }) e c d (by decide) ⟨x, H, I1, ru, ⟨rfl, fun ys hy => by rw [I.list_inj hy hq]; exact hx⟩, st', fun b hb => (hf b hb).1⟩⟩
  done := by
    intro X hP hw hK hc i pins s σ H E I hf st hg
    subst hP hw hK
    obtain ⟨xs, hq, hx⟩ := hg
    obtain ⟨its, rv, p, hz⟩ := I.list hq
    obtain ⟨f0, f1, f2, f3, f4, f5⟩ := hf it (by simp)
    have hl := rv.length
    exact wpAny_pyNext_list_end (I.ok.hd hc) st p.isList (by simp; omega) fun h' eb => ⟨rfl, I.turned (t' := s.toks) (fun b o hb e => eb b o hb e) f0 f1 f3 f4 f5⟩
  self := fun _ _ _ _ _ st h => wpAny_pyIter_listiter st h
theorem vU {P : Program} {w : World} {K : PySem.W.Frag} {tg : Expr} (it : Addr) (lo : Int) (n : Nat) : qC1 P w K tg (Itr lo n) [it] it (fun i h => IsRangeIter h it (lo + (i : Nat) * 1) ((n : Int) - (i : Nat)) 1) where
  mem := by simp
  obj := fun i h st b hb => by
    have e : b = it := by simpa using hb
    subst e
    exact ⟨_, st, fun v z => by
      have z' : Data.fields _ = Data.cell v := z
      cases z'⟩
  keep := fun i h h' st k => k it (by simp) _ st
  item := by
    intro X hP hw hK hc i pins s σ H E I hf st hg
    subst hP hw hK
    obtain ⟨f0, f1, f2, f3, f4, f5⟩ := hf it (by simp)
    have W := Walks.range (prog := X.prog) (w := X.w) (I.ok.hd hc) it lo 1 n
    refine W.item i s _ _ hg st fun v h' tk hv st' kk => ?_
    obtain ⟨t, rfl⟩ := hv
    have I1 : Inv X pins σ H { s with heap := h', toks := tk } := I.turned (fun b o hb e => kk b o (by simpa using hb) e) f0 f1 f3 f4 f5
    refine ⟨_, rfl, qCk (s := { s with heap := h', toks := tk }) (n := "range_iterator") st' rfl rfl (by decide) ⟨.int (lo + i), H, I1, ⟨t, ?_⟩, ⟨rfl, rfl⟩, st', fun b hb => (hf b hb).1⟩⟩
    rw [Int.mul_one]
  done := by
    intro X hP hw hK hc i pins s σ H E I hf st hg
    subst hP hw hK
    obtain ⟨f0, f1, f2, f3, f4, f5⟩ := hf it (by simp)
    exact wpAny_pyNext_range_end (I.ok.hd hc) st (by have : n ≤ i := hg; omega) fun h' eb => ⟨rfl, I.turned (t' := s.toks) (fun b o hb e => eb b o hb e) f0 f1 f3 f4 f5⟩
  self := fun _ _ _ _ _ st h => wpAny_pyIter_rangeiter st h
end L2
namespace L2
open PySem PySem.Spec PyProof.Rows
section
variable {X : Cx} {tg : Expr}
def qCv (K : PySem.W.Frag) (tl : TE) : TI := fun σ H R => tl σ H fun x H1 => ∃ a, x = .ref a ∧ (∃ xs, SqL K H1 a xs) ∧ R (Itl K a) H1
theorem zc {l : Expr} {tl : TE} (hl : PE X l tl) : PI X tg l (qCv X.K tl) := by
  intro pins s σ H R I h
  refine thn (hl pins s σ H _ I h) fun v s1 ⟨x, H1, I1, r1, q1⟩ => ?_
  obtain ⟨a, e, ⟨xs, hq⟩, q⟩ := q1
  subst e
  cases r1
  obtain ⟨its, rv, p, hz⟩ := I1.list hq
  refine wpAny_pyIter_list p.isList ?_
  refine ⟨s1.heap.objs.size, [s1.heap.objs.size], _, _, H1, rfl, I1.kept (t' := s1.toks) fun b o e => Heap.get?_push_of_some _ e, v4 a _, ⟨_, Heap.get?_push_size _ rfl, rfl, rfl⟩, fun b hb => ?_, q⟩
  have e : b = s1.heap.objs.size := by simpa using hb
  subst e
  exact I1.fpOk (Nat.le_refl _) (I1.hok.fresh (Nat.le_refl _))
theorem qAa {pins : List (Addr × Obj)} {σ : St} {H : Hp} {s : Shared} {R : It → Hp → Prop} {E : Value → Shared → Prop} {lo hi : Int} {t u v : Tok} {tk : Nat} (I : Inv X pins σ H s) (h1 : -(2 ^ 62) ≤ lo) (h2 : lo < 2 ^ 62) (h3 : -(2 ^ 62) ≤ hi) (h4 : hi < 2 ^ 62)
    (q : R (Itr lo (hi - lo).toNat) H) : wpAny (model X.prog X.w) X.A (pyIter (.ref s.heap.objs.size)) (PIE X pins σ tg R) E { s with heap := s.heap.push { cls := .type "range", data := .fields #[.int lo t, .int hi u, .int 1 v] }, toks := tk } := by
  refine wpAny_pyIter_range (IsRange.new ..) (small_one h1 h2 h3 h4) ?_
  have I1 : Inv X pins σ H { s with heap := s.heap.push { cls := .type "range", data := .fields #[.int lo t, .int hi u, .int 1 v] }, toks := tk } := I.kept fun b o e => Heap.get?_push_of_some _ e
  refine ⟨(s.heap.push { cls := .type "range", data := .fields #[.int lo t, .int hi u, .int 1 v] }).objs.size, [(s.heap.push { cls := .type "range", data := .fields #[.int lo t, .int hi u, .int 1 v] }).objs.size], _, _, H, rfl,
    I1.kept (t' := tk) fun b o e => Heap.get?_push_of_some _ e, vU _ lo (hi - lo).toNat, ?_, fun b hb => ?_, q⟩
  · have e1 : lo + ((0 : Nat) : Int) * 1 = lo := by simp
    have e2 : (((hi - lo).toNat : Nat) : Int) - ((0 : Nat) : Int) = Builtin.Range.rangeSize lo hi 1 := by rw [rangeSize_one]; split <;> omega
    show IsRangeIter _ _ (lo + ((0 : Nat) : Int) * 1) ((((hi - lo).toNat : Nat) : Int) - ((0 : Nat) : Int)) 1
    rw [e1, e2]
    exact Heap.get?_push_size _ rfl
  · have e : b = (s.heap.push { cls := .type "range", data := .fields #[.int lo t, .int hi u, .int 1 v] }).objs.size := by simpa using hb
    subst e
    exact I1.fpOk (Nat.le_refl _) (I1.hok.fresh (Nat.le_refl _))
def qC3 (ta : TA) : TI := fun σ H R => ta σ H fun vs H1 => ∃ j : Int, vs = [.int j] ∧ -(2 ^ 62) ≤ j ∧ j < 2 ^ 62 ∧ R (Itr 0 j.toNat) H1
theorem xy {a : Expr} {ta : TA} {p pos : Pos} (hg : Gl X "range") (hm : X.mg "range" = none) (ha : PA X [a] ta) (hs : starEach [a] X.env = [(false, eval a X.env)] := by rfl) : PI X tg (.Call (.Name "range" p) [a] [] pos) (qC3 ta) := by
  intro pins s σ H R I h
  refine Call_ (vH I hg hm boot_range (PyProof.Rows.callWith_type1 (thn (ha pos pins s σ H _ I h) fun us s1 ⟨vs, H1, I1, r1, q1⟩ => ?_) hs rfl))
  obtain ⟨j, e, q1, q2, q⟩ := q1
  subst e
  cases r1 with
  | cons r rr =>
    cases rr
    obtain ⟨t, rfl⟩ := r
    exact call_range_1 (qAa I1 (by omega) (by omega) q1 q2 (by simpa using q))
def qDn (wi : TI) (g : TG) (tb : TS) : TS := fun D σ H => wi σ H fun J H1 => ∃ W : Nat → Nat → St → Hp → Prop, (∃ m, W 0 m σ H1) ∧ ∀ i m σ H, W i m σ H →
  (J.stop i H ∧ D.nx σ H) ∨ (J.go i H ∧ ∃ N : St → Hp → Prop, (∀ σ' H', N σ' H' → ∃ m', m' < m ∧ W (i + 1) m' σ' H') ∧ ∀ x H', J.yld i H x H' → g x σ H' fun σ2 H2 => tb { D with nx := N, ct := N, bk := D.nx } σ2 H2)
def kW (fp : List Addr) (h : Heap) : List (Addr × Obj) := fp.filterMap fun b => (h.get? b).map fun o => (b, o)
theorem jy {fp : List Addr} {h : Heap} {b : Addr} {o : Obj} (hb : b ∈ fp) (e : h.get? b = some o) : (b, o) ∈ kW fp h := List.mem_filterMap.mpr ⟨b, hb, by rw [e]; rfl⟩
theorem wP {fp : List Addr} {h : Heap} {p : Addr × Obj} (hp : p ∈ kW fp h) : p.1 ∈ fp ∧ h.get? p.1 = some p.2 := by
  obtain ⟨b, hb, e⟩ := List.mem_filterMap.mp hp
  cases q : h.get? b with
  | none => rw [q] at e; cases e
  | some o =>
    rw [q] at e
    have e' : (b, o) = p := Option.some.inj e
    subst e'
    exact ⟨hb, q⟩
theorem Inv.pinned {pins : List (Addr × Obj)} {σ : St} {H : Hp} {s : Shared} {fp : List Addr} (I : Inv X pins σ H s) (hf : ∀ b ∈ fp, qAi X pins H b) (ho : ∀ b ∈ fp, ∃ o, s.heap.get? b = some o ∧ ∀ v, o.data ≠ .cell v) : Inv X (pins ++ kW fp s.heap) σ H s :=
  I.pins_of fun p hp => (List.mem_append.mp hp).elim (fun z => I.pin p (List.mem_append_right _ z)) fun z => by
    obtain ⟨hb, e⟩ := wP z
    obtain ⟨f0, f1, f2, _⟩ := hf p.1 hb
    obtain ⟨o, e', d⟩ := ho p.1 hb
    rw [e] at e'; cases e'
    exact ⟨e, f0, f1, f2, d⟩
theorem Inv.unpinned {pins pl : List (Addr × Obj)} {σ : St} {H : Hp} {s : Shared} (I : Inv X (pins ++ pl) σ H s) : Inv X pins σ H s := I.pins_of fun p hp => I.pin p (List.mem_append_right _ (List.mem_append_left _ hp))
theorem vJ {iter : Expr} {body : List Stmt} {wi : TI} {g : TG} {tb : TS} {pos : Pos} (hp : PassesOwn (model X.prog X.w) X.A X.env X.xe) (hc : X.calm = true) (hi : PI X tg iter wi) (hg : PG X tg g) (hb : PSs X body tb)
    (hs : ∀ x, foldedSetIterable iter X.env x = pure x := by intro _; rfl) : PS X (.For tg iter body [] pos) (qDn wi g tb) := by
  intro pins s σ H D I h
  refine wpAny_For (thn (hi pins s σ H _ I h) fun v s1 h1 => thn h1 fun itv s2 h2 => ?_) hs
  obtain ⟨it, fp, tn, J, H2, e, I2, T, st2, f2, W, ⟨m0, w0⟩, turn⟩ := h2
  subst e
  have stat : ∀ {H' : Hp}, (∀ b ∈ fp, H' b = none) → ∀ b ∈ fp, qAi X pins H' b := fun hn b hb => ⟨hn b hb, (f2 b hb).2⟩
  refine codeAny_forLoop_any (fun n s' => ∃ i σ' H', Inv X pins σ' H' s' ∧ tn i s'.heap ∧ (∀ b ∈ fp, H' b = none) ∧ W i n σ' H') ?_ m0 ⟨0, σ, H2, I2, st2, fun b hb => (f2 b hb).1, w0⟩
  rintro n s3 ⟨i, σ3, H3, I3, st3, fr3, w3⟩
  rcases turn i n σ3 H3 w3 with ⟨stop, qn⟩ | ⟨go, N, hN, step⟩
  · refine wpAny_passesOwn hp (thn (T.done X rfl rfl rfl hc i pins s3 σ3 H3 X.xe I3 (stat fr3) st3 stop) fun r s4 ⟨hr, I4⟩ => ?_)
    subst hr
    exact wpAny_execs_nil ⟨σ3, H3, I4, qn⟩
  · refine wpAny_passesOwn hp (thn (T.item X rfl rfl rfl hc i pins s3 σ3 H3 X.xe I3 (stat fr3) st3 go) fun r s4 ⟨u, hr, h4⟩ => ?_)
    subst hr
    refine wpAny_passesOwn hp (thn h4 fun _ s5 ⟨x, H5, I5, r5, y5, st5, fr5⟩ => ?_)
    have I5' := I5.pinned (stat fr5) (T.obj _ _ st5)
    refine wpAny_passesOwn hp (thn (hg _ s5 σ3 H5 x u _ I5' r5 (step x H5 y5)) fun _ s6 ⟨σ6, H6, I6, q6⟩ => ?_)
    refine wpAny_passesOwn hp (thn (hb _ s6 σ6 H6 _ I6 q6) fun f s7 q7 => ?_)
    have again : ∀ {σ7 : St} {H7 : Hp}, Inv X (pins ++ kW fp s5.heap) σ7 H7 s7 → N σ7 H7 → ∃ m, m < n ∧ ∃ i σ' H', Inv X pins σ' H' s7 ∧ tn i s7.heap ∧ (∀ b ∈ fp, H' b = none) ∧ W i m σ' H' := fun {σ7 H7} I7 n7 => by
      obtain ⟨m', hm, w7⟩ := hN σ7 H7 n7
      refine ⟨m', hm, i + 1, σ7, H7, I7.unpinned, T.keep _ _ _ st5 fun b hb o e => (I7.pin (b, o) (List.mem_append_right _ (List.mem_append_right _ (jy hb e)))).1, fun b hb => ?_, w7⟩
      obtain ⟨o, e, d⟩ := T.obj _ _ st5 b hb
      exact (I7.pin (b, o) (List.mem_append_right _ (List.mem_append_right _ (jy hb e)))).2.1
    cases f with
    | next => obtain ⟨σ7, H7, I7, n7⟩ := q7; exact again I7 n7
    | cont => obtain ⟨σ7, H7, I7, n7⟩ := q7; exact again I7 n7
    | brk => obtain ⟨σ7, H7, I7, q7⟩ := q7; exact ⟨σ7, H7, I7.unpinned, q7⟩
    | ret v => obtain ⟨x7, σ7, H7, I7, r7, q7⟩ := q7; exact ⟨x7, σ7, H7, I7.unpinned, r7, q7⟩
end
theorem wo {K : PySem.W.Frag} {a : Addr} {xs : List V} {g : TG} {tb : TS} {D : wX} {σ : St} {H : Hp} (Pv : Nat → St → Hp → Prop) (h0 : Pv 0 σ H) (hl : ∀ i σ H, i ≤ xs.length → Pv i σ H → SqL K H a xs)
    (hs : ∀ i x σ H, xs[i]? = some x → Pv i σ H → g x σ H fun σ2 H2 => tb { D with nx := Pv (i + 1), ct := Pv (i + 1), bk := D.nx } σ2 H2) (hd : ∀ σ H, Pv xs.length σ H → D.nx σ H) :
    ∃ W : Nat → Nat → St → Hp → Prop, (∃ m, W 0 m σ H) ∧ ∀ i m σ H, W i m σ H →
      ((Itl K a).stop i H ∧ D.nx σ H) ∨ ((Itl K a).go i H ∧ ∃ N : St → Hp → Prop, (∀ σ' H', N σ' H' → ∃ m', m' < m ∧ W (i + 1) m' σ' H') ∧ ∀ x H', (Itl K a).yld i H x H' → g x σ H' fun σ2 H2 => tb { D with nx := N, ct := N, bk := D.nx } σ2 H2) := by
  refine ⟨fun i m σ H => m = xs.length - i ∧ i ≤ xs.length ∧ Pv i σ H, ⟨xs.length, by simp, Nat.zero_le _, h0⟩, ?_⟩
  rintro i m σ H ⟨rfl, hi, p⟩
  have q := hl i σ H hi p
  by_cases hlt : i < xs.length
  · refine .inr ⟨⟨xs, xs[i], q, by simp [hlt]⟩, Pv (i + 1), fun σ' H' p' => ⟨xs.length - (i + 1), by omega, rfl, hlt, p'⟩, fun x H' y => ?_⟩
    obtain ⟨e, y⟩ := y
    subst e
    exact hs i x σ _ (y xs q) p
  · have e : i = xs.length := by omega
    subst e
    exact .inl ⟨⟨xs, q, Nat.le_refl _⟩, hd σ H p⟩
theorem xn {lo : Int} {n : Nat} {g : TG} {tb : TS} {D : wX} {σ : St} {H : Hp} (Pv : Nat → St → Hp → Prop) (h0 : Pv 0 σ H)
    (hs : ∀ i σ H, i < n → Pv i σ H → g (.int (lo + i)) σ H fun σ2 H2 => tb { D with nx := Pv (i + 1), ct := Pv (i + 1), bk := D.nx } σ2 H2) (hd : ∀ σ H, Pv n σ H → D.nx σ H) :
    ∃ W : Nat → Nat → St → Hp → Prop, (∃ m, W 0 m σ H) ∧ ∀ i m σ H, W i m σ H →
      ((Itr lo n).stop i H ∧ D.nx σ H) ∨ ((Itr lo n).go i H ∧ ∃ N : St → Hp → Prop, (∀ σ' H', N σ' H' → ∃ m', m' < m ∧ W (i + 1) m' σ' H') ∧ ∀ x H', (Itr lo n).yld i H x H' → g x σ H' fun σ2 H2 => tb { D with nx := N, ct := N, bk := D.nx } σ2 H2) := by
  refine ⟨fun i m σ H => m = n - i ∧ i ≤ n ∧ Pv i σ H, ⟨n, by simp, Nat.zero_le _, h0⟩, ?_⟩
  rintro i m σ H ⟨rfl, hi, p⟩
  by_cases hlt : i < n
  · refine .inr ⟨hlt, Pv (i + 1), fun σ' H' p' => ⟨n - (i + 1), by omega, rfl, hlt, p'⟩, fun x H' y => ?_⟩
    obtain ⟨e, y⟩ := y
    subst e y
    exact hs i σ _ hlt p
  · have e : i = n := by omega
    subst e
    exact .inl ⟨Nat.le_refl _, hd σ H p⟩
theorem vQ {c : TT} {tb : TS} {D : wX} {σ : St} {H : Hp} (Pv : St → Hp → Prop) (μ : St → Hp → Nat) (h0 : Pv σ H)
    (hs : ∀ σ H, Pv σ H → c σ H fun b H1 => if b = true then tb { D with nx := fun σ' H' => Pv σ' H' ∧ μ σ' H' < μ σ H, ct := fun σ' H' => Pv σ' H' ∧ μ σ' H' < μ σ H, bk := D.nx } σ H1 else D.nx σ H1)
    (mono : ∀ σ H Q Q', (∀ b H1, Q b H1 → Q' b H1) → c σ H Q → c σ H Q') : qAn c tb D σ H := by
  refine ⟨fun m σ H => m = μ σ H ∧ Pv σ H, ⟨_, rfl, h0⟩, ?_⟩
  rintro m σ H ⟨rfl, p⟩
  refine mono σ H _ _ (fun b H1 q => ?_) (hs σ H p)
  cases b with
  | true => exact ⟨_, fun σ' H' ⟨p', l⟩ => ⟨_, l, rfl, p'⟩, q⟩
  | false => exact q
end L2
namespace L2
open PySem PySem.Spec PyProof.Rows
abbrev R2 := V → V → Hp → VK → Prop
def OpR (X : Cx) (f : Value → Value → Sem Value) (r : R2) : Prop :=
  ∀ (pins : List (Addr × Obj)) (s : Shared) (σ : St) (H : Hp) (x y : V) (v u : Value) (Q : VK), Inv X pins σ H s → RelV x v → RelV y u → r x y H Q →
    wpAny (model X.prog X.w) X.A (f v u) (EP X pins σ Q) X.xe s
def UnR (X : Cx) (f : Value → Sem Value) (r : V → Hp → VK → Prop) : Prop :=
  ∀ (pins : List (Addr × Obj)) (s : Shared) (σ : St) (H : Hp) (x : V) (v : Value) (Q : VK), Inv X pins σ H s → RelV x v → r x H Q →
    wpAny (model X.prog X.w) X.A (f v) (EP X pins σ Q) X.xe s
def CallR (X : Cx) (f : Value) (r : List V → Hp → VK → Prop) : Prop :=
  ∀ (pins : List (Addr × Obj)) (s : Shared) (σ : St) (H : Hp) (xs : List V) (us : List Value) (Q : VK), Inv X pins σ H s → Vals xs us → r xs H Q →
    wpAny (model X.prog X.w) X.A (call f us) (EP X pins σ Q) X.xe s
def tOp (r : R2) (ta tb : TE) : TE := fun σ H Q => ta σ H fun x H1 => tb σ H1 fun y H2 => r x y H2 Q
def tUn (r : V → Hp → VK → Prop) (ta : TE) : TE := fun σ H Q => ta σ H fun x H1 => r x H1 Q
def rI (C : Int → Int → Prop) (g : Int → Int → V) : R2 := fun x y H Q => ∃ i j, x = .int i ∧ y = .int j ∧ C i j ∧ Q (g i j) H
def rI0 (g : Int → Int → V) : R2 := fun x y H Q => ∃ i j, x = .int i ∧ y = .int j ∧ Q (g i j) H
def rU (g : Int → V) : V → Hp → VK → Prop := fun x H Q => ∃ i, x = .int i ∧ Q (g i) H
section
variable {X : Cx} {a b c : Expr} {ta tb tc : TE} {pos : Pos}
theorem qCy (ha : PE X a ta) (hb : PE X b tb) {pins : List (Addr × Obj)} {s : Shared} {σ : St} {H : Hp} {R : V → V → Hp → Prop} (I : Inv X pins σ H s)
    (h : ta σ H fun x H1 => tb σ H1 fun y H2 => R x y H2) {Q : Value → Shared → Prop} {f : Value → Value → Sem Value}
    (hf : ∀ v u s2 x y H2, Inv X pins σ H2 s2 → RelV x v → RelV y u → R x y H2 → wpAny (model X.prog X.w) X.A (f v u) Q X.xe s2) :
    wpAny (model X.prog X.w) X.A (eval a X.env) (fun v s₁ => wpAny (model X.prog X.w) X.A (eval b X.env) (fun u s₂ => wpAny (model X.prog X.w) X.A (f v u) Q X.xe s₂) X.xe s₁) X.xe s := by
  refine thn (ha pins s σ H _ I h) fun v s1 ⟨x, H1, I1, r1, q1⟩ => ?_
  refine thn (hb pins s1 σ H1 _ I1 q1) fun u s2 ⟨y, H2, I2, r2, q2⟩ => ?_
  exact hf v u s2 x y H2 I2 r1 r2 q2
theorem qI {op : Operator} {r : R2} (ho : OpR X (binaryOp op) r) (ha : PE X a ta) (hb : PE X b tb) : PE X (.BinOp a op b pos) (tOp r ta tb) := by
  intro pins s σ H Q I h
  exact wpAny_BinOp (qCy ha hb I h fun v u s2 x y H2 I2 rx ry q => ho pins s2 σ H2 x y v u Q I2 rx ry q)
theorem xC {op : UnaryOp} {r : V → Hp → VK → Prop} (ho : UnR X (unaryOp op) r) (ha : PE X a ta) : PE X (.UnaryOp op a pos) (tUn r ta) := by
  intro pins s σ H Q I h
  exact UnaryOp_ (thn (ha pins s σ H _ I h) fun v s1 ⟨x, H1, I1, r1, q1⟩ => ho pins s1 σ H1 x v Q I1 r1 q1)
theorem opI {f : Value → Value → Sem Value} {C : Int → Int → Prop} {g : Int → Int → Int}
    (rule : ∀ (i j : Int) (t u : Tok) (s : Shared) (Q : Value → Shared → Prop) (E : Value → Shared → Prop), C i j → Q (.int (g i j) s.toks) { s with toks := s.toks + 1 } → wpAny (model X.prog X.w) X.A (f (.int i t) (.int j u)) Q E s) :
    OpR X f (rI C fun i j => .int (g i j)) := by
  intro pins s σ H x y v u Q I rx ry h
  obtain ⟨i, j, rfl, rfl, hc, q⟩ := h
  obtain ⟨t, rfl⟩ := rx
  obtain ⟨t', rfl⟩ := ry
  exact rule i j t t' s _ _ hc ⟨.int (g i j), H, I.tok _, ⟨_, rfl⟩, q⟩
theorem qD2 {f : Value → Value → Sem Value} {g : Int → Int → Int}
    (rule : ∀ (i j : Int) (t u : Tok) (s : Shared) (Q : Value → Shared → Prop) (E : Value → Shared → Prop), Q (.int (g i j) s.toks) { s with toks := s.toks + 1 } → wpAny (model X.prog X.w) X.A (f (.int i t) (.int j u)) Q E s) :
    OpR X f (rI0 fun i j => .int (g i j)) := by
  intro pins s σ H x y v u Q I rx ry h
  obtain ⟨i, j, rfl, rfl, q⟩ := h
  obtain ⟨t, rfl⟩ := rx
  obtain ⟨t', rfl⟩ := ry
  exact rule i j t t' s _ _ ⟨.int (g i j), H, I.tok _, ⟨_, rfl⟩, q⟩
theorem qDe {f : Value → Value → Sem Value} {g : Int → Int → Bool}
    (rule : ∀ (i j : Int) (t u : Tok) (s : Shared) (Q : Value → Shared → Prop) (E : Value → Shared → Prop), Q (.bool (g i j)) s → wpAny (model X.prog X.w) X.A (f (.int i t) (.int j u)) Q E s) :
    OpR X f (rI0 fun i j => .bl (g i j)) := by
  intro pins s σ H x y v u Q I rx ry h
  obtain ⟨i, j, rfl, rfl, q⟩ := h
  obtain ⟨t, rfl⟩ := rx
  obtain ⟨t', rfl⟩ := ry
  exact rule i j t t' s _ _ ⟨.bl (g i j), H, I, rfl, q⟩
def qDj (i j : Int) : Prop := 0 ≤ j ∧ j ≤ 1000000 ∧ i.natAbs < 2 ^ 64
def CMul (i j : Int) : Prop := (-(2 ^ 64) < i ∧ i < 2 ^ 64) ∨ (-(2 ^ 64) < j ∧ j < 2 ^ 64)
theorem CMul.ok {i j : Int} (h : CMul i j) : IntMulOk i j := by
  rcases h with ⟨h1, h2⟩ | ⟨h1, h2⟩
  · exact .of_left (intBits_le_64 h1 h2)
  · exact .of_right (intBits_le_64 h1 h2)
theorem jO : OpR X (binaryOp .Add) (rI0 fun i j => .int (i + j)) := qD2 fun _ _ _ _ _ _ _ q => add_int q
theorem qU : OpR X (binaryOp .Mod) (rI (fun _ j => j ≠ 0) fun i j => .int (i.fmod j)) := opI fun _ _ _ _ _ _ _ hc q => mod_int' hc q
theorem qBv : OpR X (binaryOp .Pow) (rI qDj fun i j => .int (i ^ j.toNat)) := opI fun _ _ _ _ _ _ _ hc q => pow_int_small hc.1 hc.2.1 hc.2.2 q
theorem unI {f : Value → Sem Value} {g : Int → Int}
    (rule : ∀ (i : Int) (t : Tok) (s : Shared) (Q : Value → Shared → Prop) (E : Value → Shared → Prop), Q (.int (g i) s.toks) { s with toks := s.toks + 1 } → wpAny (model X.prog X.w) X.A (f (.int i t)) Q E s) :
    UnR X f (rU fun i => .int (g i)) := by
  intro pins s σ H x v Q I rx h
  obtain ⟨i, rfl, q⟩ := h
  obtain ⟨t, rfl⟩ := rx
  exact rule i t s _ _ ⟨.int (g i), H, I.tok _, ⟨_, rfl⟩, q⟩
theorem jc : UnR X (unaryOp .USub) (rU fun i => .int (-i)) := unI fun _ _ _ _ _ q => neg_int q
end
def qDi : V → V → Bool
  | .non, .non => true | .non, .int _ => true | .int _, .non => true | .non, .bl _ => true | .bl _, .non => true | .non, .str _ => true | .str _, .non => true
  | .int _, .int _ => true | .bl _, .bl _ => true | .str _, .str _ => true | .byt _, .byt _ => true
  | .int _, .str _ => true | .str _, .int _ => true | .bl _, .str _ => true | .str _, .bl _ => true
  | _, _ => false
def rEq : R2 := fun x y H Q => qDi x y = true ∧ Q (.bl (decide (x = y))) H
def rNe : R2 := fun x y H Q => qDi x y = true ∧ Q (.bl (!decide (x = y))) H
theorem wI {i j : Int} : decide (V.int i = V.int j) = (i == j) := by
  rw [Bool.eq_iff_iff]
  simp
theorem qAo {i j : Bool} : decide (V.bl i = V.bl j) = (i == j) := by
  rw [Bool.eq_iff_iff]
  simp
theorem vv {i j : Str} : decide (V.str i = V.str j) = (i == j) := by
  rw [Bool.eq_iff_iff]
  simp
theorem vp {i j : Array UInt8} : decide (V.byt i = V.byt j) = (i.toList == j.toList) := by
  rw [Bool.eq_iff_iff]
  cases i
  cases j
  simp
section
variable {X : Cx} {a b c : Expr} {ta tb tc : TE} {pos : Pos}
theorem qh {pins : List (Addr × Obj)} {σ : St} {H : Hp} {s : Shared} {Q : VK} {k k' : Bool} (I : Inv X pins σ H s) (q : Q (.bl k) H) (e : k = k') : EP X pins σ Q (.bool k') s := by
  subst e
  exact ⟨.bl k, H, I, rfl, q⟩
theorem jp : OpR X (compareOp .Eq) rEq := by
  intro pins s σ H x y v u Q I rx ry h
  obtain ⟨hs, q⟩ := h
  cases x with
  | non =>
    cases rx
    cases y with
    | non => cases ry; exact PySem.EqNone.eq_none_none (qh I q (by simp))
    | bl j => cases ry; exact PySem.EqNone.eq_none_bool (qh I q (by simp))
    | int j => obtain ⟨t', rfl⟩ := ry; exact PySem.EqNone.eq_none_int (qh I q (by simp))
    | str j => obtain ⟨t', rfl⟩ := ry; exact PySem.EqNone.eq_none_str (qh I q (by simp))
    | _ => exact absurd (show false = true from hs) Bool.false_ne_true
  | bl i =>
    cases rx
    cases y with
    | non => cases ry; exact PySem.EqNone.eq_bool_none (qh I q (by simp))
    | bl j => cases ry; exact eq_bool (qh I q qAo)
    | str j => obtain ⟨t', rfl⟩ := ry; exact PySem.EqMixed.eq_bool_str (qh I q (by simp))
    | _ => exact absurd (show false = true from hs) Bool.false_ne_true
  | int i =>
    obtain ⟨t, rfl⟩ := rx
    cases y with
    | non => cases ry; exact PySem.EqNone.eq_int_none (qh I q (by simp))
    | int j => obtain ⟨t', rfl⟩ := ry; exact eq_int (qh I q wI)
    | str j => obtain ⟨t', rfl⟩ := ry; exact PySem.EqMixed.eq_int_str (qh I q (by simp))
    | _ => exact absurd (show false = true from hs) Bool.false_ne_true
  | str i =>
    obtain ⟨t, rfl⟩ := rx
    cases y with
    | non => cases ry; exact PySem.EqNone.eq_str_none (qh I q (by simp))
    | bl j => cases ry; exact PySem.EqMixed.eq_str_bool (qh I q (by simp))
    | int j => obtain ⟨t', rfl⟩ := ry; exact PySem.EqMixed.eq_str_int (qh I q (by simp))
    | str j => obtain ⟨t', rfl⟩ := ry; exact eq_str (qh I q vv)
    | _ => exact absurd (show false = true from hs) Bool.false_ne_true
  | byt i =>
    obtain ⟨t, rfl⟩ := rx
    cases y with
    | byt j => obtain ⟨t', rfl⟩ := ry; exact PySem.W.eq_bytes (qh I q vp)
    | _ => exact absurd (show false = true from hs) Bool.false_ne_true
  | _ => cases y <;> exact absurd (show false = true from hs) Bool.false_ne_true
theorem xW : OpR X (compareOp .NotEq) rNe := by
  intro pins s σ H x y v u Q I rx ry h
  obtain ⟨hs, q⟩ := h
  cases x with
  | non =>
    cases rx
    cases y with
    | non => cases ry; exact PySem.EqNone.ne_none_none (qh I q (by simp))
    | bl j => cases ry; exact PySem.EqNone.ne_none_bool (qh I q (by simp))
    | int j => obtain ⟨t', rfl⟩ := ry; exact PySem.EqNone.ne_none_int (qh I q (by simp))
    | str j => obtain ⟨t', rfl⟩ := ry; exact PySem.EqNone.ne_none_str (qh I q (by simp))
    | _ => exact absurd (show false = true from hs) Bool.false_ne_true
  | bl i =>
    cases rx
    cases y with
    | non => cases ry; exact PySem.EqNone.ne_bool_none (qh I q (by simp))
    | bl j => cases ry; exact ne_bool (qh I q (congrArg not qAo))
    | str j => obtain ⟨t', rfl⟩ := ry; exact PySem.EqMixed.ne_bool_str (qh I q (by simp))
    | _ => exact absurd (show false = true from hs) Bool.false_ne_true
  | int i =>
    obtain ⟨t, rfl⟩ := rx
    cases y with
    | non => cases ry; exact PySem.EqNone.ne_int_none (qh I q (by simp))
    | int j => obtain ⟨t', rfl⟩ := ry; exact ne_int (qh I q (congrArg not wI))
    | str j => obtain ⟨t', rfl⟩ := ry; exact PySem.EqMixed.ne_int_str (qh I q (by simp))
    | _ => exact absurd (show false = true from hs) Bool.false_ne_true
  | str i =>
    obtain ⟨t, rfl⟩ := rx
    cases y with
    | non => cases ry; exact PySem.EqNone.ne_str_none (qh I q (by simp))
    | bl j => cases ry; exact PySem.EqMixed.ne_str_bool (qh I q (by simp))
    | int j => obtain ⟨t', rfl⟩ := ry; exact PySem.EqMixed.ne_str_int (qh I q (by simp))
    | str j => obtain ⟨t', rfl⟩ := ry; exact ne_str (qh I q (congrArg not vv))
    | _ => exact absurd (show false = true from hs) Bool.false_ne_true
  | byt i =>
    obtain ⟨t, rfl⟩ := rx
    cases y with
    | byt j => obtain ⟨t', rfl⟩ := ry; exact PySem.W.ne_bytes (qh I q (congrArg not vp))
    | _ => exact absurd (show false = true from hs) Bool.false_ne_true
  | _ => cases y <;> exact absurd (show false = true from hs) Bool.false_ne_true
theorem vz : OpR X (compareOp .Lt) (rI0 fun i j => .bl (decide (i < j))) := qDe fun _ _ _ _ _ _ _ q => lt_int q
theorem qB0 : OpR X (compareOp .GtE) (rI0 fun i j => .bl (decide (j ≤ i))) := qDe fun _ _ _ _ _ _ _ q => ge_int q
theorem OpR.or {f : Value → Value → Sem Value} {r r' : R2} (h : OpR X f r) (h' : OpR X f r') : OpR X f (fun x y H Q => r x y H Q ∨ r' x y H Q) := by
  intro pins s σ H x y v u Q I rx ry q
  rcases q with q | q
  · exact h pins s σ H x y v u Q I rx ry q
  · exact h' pins s σ H x y v u Q I rx ry q
theorem qN (b : Expr) {op : CmpOp} (h : op ≠ .In := by decide) (h2 : op ≠ .NotIn := by decide) : behindInMarks op b = false := by
  have e1 : (op == CmpOp.In) = false := by cases op <;> first | rfl | exact absurd rfl h
  have e2 : (op == CmpOp.NotIn) = false := by cases op <;> first | rfl | exact absurd rfl h2
  cases b <;> simp [behindInMarks, e1, e2]
theorem jq {op : CmpOp} {r : R2} (ho : OpR X (compareOp op) r) (ha : PE X a ta) (hb : PE X b tb) (hm : behindInMarks op b = false) : PE X (.Compare a [op] [b] pos) (tOp r ta tb) := by
  intro pins s σ H Q I h
  exact wpAny_Compare1 (qCy ha hb I h fun v u s2 x y H2 I2 rx ry q => ho pins s2 σ H2 x y v u Q I2 rx ry q) hm
def qCw (t : TE) : TT := fun σ H Q => t σ H fun x H' => ∃ k, x = .bl k ∧ Q k H'
theorem qM {op : CmpOp} {r : R2} (ho : OpR X (compareOp op) r) (ha : PE X a ta) (hb : PE X b tb) (hm : behindInMarks op b = false) : PT X (.Compare a [op] [b] pos) (qCw (tOp r ta tb)) := by
  intro pins s σ H Q I h
  refine wpAny_isTrue_Compare1 (thn (ha pins s σ H _ I h) fun v s1 ⟨x, H1, I1, r1, q1⟩ => thn (hb pins s1 σ H1 _ I1 q1) fun u s2 ⟨y, H2, I2, r2, q2⟩ =>
    thn (ho pins s2 σ H2 x y v u _ I2 r1 r2 q2) fun c s3 ⟨z, H3, I3, r3, k, e, q3⟩ => ?_) hm
  subst e
  cases r3
  exact wpAny_truthy_bool ⟨H3, I3, q3⟩
theorem v6 : (sizeLine : Nat) < 2 ^ 63 := by rw [sizeLine_eq]; decide
theorem wr {x : V} {us : List Value} (r : Vals [x] us) : ∃ u, us = [u] ∧ RelV x u := by
  cases r with
  | cons r1 r2 => cases r2; exact ⟨_, rfl, r1⟩
theorem qBd {x y : V} {us : List Value} (r : Vals [x, y] us) : ∃ u w', us = [u, w'] ∧ RelV x u ∧ RelV y w' := by
  cases r with
  | cons r1 r2 =>
    cases r2 with
    | cons r3 r4 => cases r4; exact ⟨_, _, rfl, r1, r3⟩
theorem ww : CallR X (.builtin "abs") (fun xs H Q => ∃ i, xs = [.int i] ∧ Q (.int (if i < 0 then -i else i)) H) := by
  intro pins s σ H xs us Q I r h
  obtain ⟨i, rfl, q⟩ := h
  obtain ⟨u, rfl, t, rfl⟩ := wr r
  exact call_abs_int fun u tk => ⟨.int (if i < 0 then -i else i), H, I.tok _, ⟨_, rfl⟩, q⟩
end
end L2
namespace L2
open PySem PySem.Spec PyProof.Rows
structure ObjM (h : Heap) (x dx C : Addr) (mA : Str → Option Value) : Prop where
  obj : h.get? x = some (PySem.W.instObj C dx)
  ns : h.Ns1 dx mA
  ne : dx ≠ x
theorem wL {h : Heap} {dx : Addr} {mA : Str → Option Value} (n : h.Ns1 dx mA) : ∃ od, h.get? dx = some od ∧ ∀ name, PySem.W.lookIn name od = some (mA name) := by
  obtain ⟨o, es, ep, ho, hd, hk, _, hm⟩ := n
  refine ⟨o, ho, fun name => ?_⟩
  have e := hm name
  unfold nsFind findBy at e
  rw [← Array.find?_toList] at e
  unfold PySem.W.lookIn
  rw [hd]
  dsimp only
  split
  · rename_i y q
    rw [q] at e
    exact congrArg some e
  · rename_i q
    rw [q] at e
    have a : es.toList.any (·.refKey) = false := by
      rw [List.any_eq_false]
      intro y hy
      obtain ⟨z, t, hkey⟩ := hk y (Array.mem_toList_iff.mp hy)
      simp [DictEntry.refKey, hkey]
    have a' : ¬ es.toList.any (·.refKey) = true := by rw [a]; exact Bool.false_ne_true
    rw [if_neg a']
    exact congrArg some e
theorem ObjM.look {h : Heap} {x dx C : Addr} {mA : Str → Option Value} (I : ObjM h x dx C mA) : ∃ od, PySem.W.InstAt h x (PySem.W.instObj C dx) C (some od) ∧ ∀ name, PySem.W.lookIn name od = some (mA name) :=
  let ⟨od, ho, hl⟩ := wL I.ns
  ⟨od, ⟨I.obj, rfl, rfl, ho⟩, hl⟩
section
variable {prog : Program} {w : World} {A : Around} {E : Value → Shared → Prop} {s : Shared} {K : PySem.W.Frag} {x dx C f : Addr} {mA : Str → Option Value} {name : Str} {v : Value}
end
section
variable {P : Program} {w : World} {H H' : Hp} {h h' : Heap} {a C dx : Addr} {fs fs' : List (Str × V)}
theorem qBb (hok : HOk P w H h) (e : H a = some (.ins C dx fs)) : ∃ mA, ObjM h a dx C mA ∧ (∀ f, RelO (fs.lookup f) (mA f)) ∧ PySem.Within mA (fs.map (·.1)) ∧ fs.length ≤ 1000 ∧ H dx = some (.own a) := by
  obtain ⟨d, z, ne, ob, mA, n, r, q⟩ := (show ObjOk P w H h a (.ins C dx fs) from hok a _ e)
  exact ⟨mA, ⟨ob, n, ne⟩, r, q, z, d⟩
end
structure Cls (K : PySem.W.Frag) (C : Addr) : Prop where
  pg : PySem.W.plainGet K C Str.empty = true
  hd : PySem.W.hasDictIn K C = true
  po : PySem.W.plainOver K C = true
  sa : PySem.W.findIn K (.ref C) "__setattr__" = some (some (.builtin "object.__setattr__"))
theorem Cls.get {K : PySem.W.Frag} {C : Addr} (c : Cls K C) (f : Str) : PySem.W.plainGet K C f = true := c.pg
structure Con (K : PySem.W.Frag) (C : Addr) (f : Str) (v : V) (u : Value) : Prop where
  at_ : PySem.W.findIn K (.ref C) f = some (some u)
  rel : RelV v u
  get : PySem.W.specialIn K u "__get__" = some none
  cp : PySem.W.copiedNames.contains f = false
structure Meth (K : PySem.W.Frag) (C : Addr) (m : Str) (f : Addr) : Prop where
  at_ : PySem.W.findIn K (.ref C) m = some (some (.ref f))
  fn : PySem.W.isFn K (.ref f) = true
  kp : PySem.W.keepIn K (.ref f) = true
section
variable {X : Cx} {pins : List (Addr × Obj)} {σ : St} {H : Hp} {s : Shared} {a C dx : Addr} {fs : List (Str × V)} {f : Str} {v : V} {A : Around} {E : Value → Shared → Prop}
theorem Inv.made (I : Inv X pins σ H s) : Inv X pins σ (upd (upd H s.heap.objs.size (.own (s.heap.objs.size + 1))) (s.heap.objs.size + 1) (.ins C s.heap.objs.size []))
    { s with heap := (s.heap.push PySem.W.emptyDict).push (PySem.W.instObj C s.heap.objs.size) } := by
  have e1 : (s.heap.push PySem.W.emptyDict).get? s.heap.objs.size = some PySem.W.emptyDict := Heap.get?_push_size s.heap rfl
  have e2 : ((s.heap.push PySem.W.emptyDict).push (PySem.W.instObj C s.heap.objs.size)).get? (s.heap.objs.size + 1) = some (PySem.W.instObj C s.heap.objs.size) := by
    have := Heap.get?_push_size (s.heap.push PySem.W.emptyDict) (o := PySem.W.instObj C s.heap.objs.size) rfl
    rwa [Heap.size_push] at this
  have e3 : (s.heap.push PySem.W.emptyDict).Ns s.heap.objs.size (fun _ => none) := ⟨PySem.W.emptyDict, #[], _, e1, rfl, (fun e he => absurd he (by simp)), fun _ => rfl⟩
  have I1 := I.laid (a := s.heap.objs.size) (o := .own (s.heap.objs.size + 1)) (h' := s.heap.push PySem.W.emptyDict) (t' := s.toks) (fun b u q => Heap.get?_push_of_some _ q) (Nat.le_refl _) ⟨_, e1⟩
  refine I1.laid (a := s.heap.objs.size + 1) (o := .ins C s.heap.objs.size []) (t' := s.toks) (fun b u q => Heap.get?_push_of_some _ q) (Nat.le_of_eq (Heap.size_push _ _)) ?_
  have ne : s.heap.objs.size ≠ s.heap.objs.size + 1 := Nat.ne_of_lt (Nat.lt_succ_self _)
  refine ⟨by rw [qP ne, qD], Nat.zero_le _, ne, e2, fun _ => none, (Heap.Ns1.of_empty e3).at fun o q => Heap.get?_push_of_some _ q, fun _ => True.intro, fun y hy => absurd rfl hy⟩
end
section
variable {X : Cx} {o e value : Expr} {f : Str} {pos pos' tpos : Pos} {ta tv : TE}
end
section
variable {X : Cx} {pins : List (Addr × Obj)} {σ : St} {H : Hp} {s : Shared} {A : Around} {E : Value → Shared → Prop} {Q : Value → Shared → Prop} {c : Value} {b : Bool}
inductive kQ (K : PySem.W.Frag) (H : Hp) : V → Value → Prop where
  | non : kQ K H .non (.type "NoneType")
  | bl (x : Bool) : kQ K H (.bl x) (.type "bool")
  | int (i : Int) : kQ K H (.int i) (.type "int")
  | str (x : Str) : kQ K H (.str x) (.type "str")
  | flt (x : UInt64) : kQ K H (.flt x) (.type "float")
  | lst {a : Addr} {xs : List V} (e : H a = some (.lst xs)) : kQ K H (.ref a) (.type "list")
  | frz {a : Addr} {o : Obj} {xs : List V} (e : H a = some (.frz o (.lst xs))) : kQ K H (.ref a) (.type "list")
  | tup {a : Addr} {xs : List V} (e : H a = some (.tup xs)) : kQ K H (.ref a) (.type "tuple")
  | dK {a : Addr} {kvs : List (Key × V)} (e : H a = some (.dK kvs)) : kQ K H (.ref a) (.type "dict")
  | dT {a : Addr} {kvs : List (List Key × V)} (e : H a = some (.dT kvs)) : kQ K H (.ref a) (.type "dict")
  | ins {a C dx : Addr} {fs : List (Str × V)} (e : H a = some (.ins C dx fs)) (cl : Cls K C) (ha : PySem.W.findIn K (.ref C) "__class__" = some (some (.builtin "object.__class__")))
      (hn : PySem.W.specialIn K (.builtin "object.__class__") "__get__" = some (some (.builtin "getset_descriptor.__get__"))) (htk : PySem.W.takesIn K (.builtin "object.__class__") = some true)
      (hm : PySem.W.mroIn K C (.type "object") = some true) : kQ K H (.ref a) (.ref C)
theorem kN {x : V} {u t : Value} (I : Inv X pins σ H s) (rx : RelV x u) (ty : kQ X.K H x t) (e : PySem.W.kitOne X.K t c = some b) (h : ∀ tk, Q (.bool b) { s with toks := tk }) :
    wpAny (model X.prog X.w) A (call (.builtin "isinstance") [u, c]) Q E s := by
  cases ty with
  | non => cases (show u = Value.none from rx); exact PySem.W.kia_one PySem.W.kitx_none I.kIn True.intro e (fun z => nomatch z) h
  | bl y => cases (show u = Value.bool y from rx); exact PySem.W.kia_one PySem.W.kitx_bool I.kIn True.intro e (fun z => nomatch z) h
  | int i => obtain ⟨t, q⟩ := (show ∃ t, u = Value.int i t from rx); cases q; exact PySem.W.kia_one PySem.W.kitx_int I.kIn True.intro e (fun z => nomatch z) h
  | str y => obtain ⟨t, q⟩ := (show ∃ t, u = Value.str y t from rx); cases q; exact PySem.W.kia_one PySem.W.kitx_str I.kIn True.intro e (fun z => nomatch z) h
  | flt y => obtain ⟨t, q⟩ := (show ∃ t, u = Value.float y t from rx); cases q; exact PySem.W.kia_one PySem.W.kitx_float I.kIn True.intro e (fun z => nomatch z) h
  | @lst a xs ea =>
    cases (show u = Value.ref a from rx)
    obtain ⟨_, _, n, _, h1⟩ := (show ObjOk X.prog X.w H s.heap a (.lst xs) from I.hok a _ ea)
    exact PySem.W.kia_one PySem.W.kitx_list I.kIn ⟨_, h1, rfl⟩ e (fun z => nomatch z) h
  | @frz a ob xs ea =>
    cases (show u = Value.ref a from rx)
    obtain ⟨_, _, _, n, _, h1⟩ := (show ObjOk X.prog X.w H s.heap a (.frz ob (.lst xs)) from I.hok a _ ea)
    exact PySem.W.kia_one PySem.W.kitx_list I.kIn ⟨_, h1, rfl⟩ e (fun z => nomatch z) h
  | @tup a xs ea =>
    cases (show u = Value.ref a from rx)
    obtain ⟨_, _, _, p⟩ := (show ObjOk X.prog X.w H s.heap a (.tup xs) from I.hok a _ ea)
    obtain ⟨o, h1, h2, _⟩ := p
    exact PySem.W.kia_one PySem.W.kitx_tuple I.kIn ⟨o, h1, h2⟩ e (fun z => nomatch z) h
  | @dK a kvs ea =>
    cases (show u = Value.ref a from rx)
    obtain ⟨_, _, vs, _, p⟩ := (show ObjOk X.prog X.w H s.heap a (.dK kvs) from I.hok a _ ea)
    obtain ⟨o, es, ep, h1, h2, _⟩ := p
    exact PySem.W.kia_one PySem.W.kitx_dict I.kIn ⟨o, h1, h2.1⟩ e (fun z => nomatch z) h
  | @dT a kvs ea =>
    cases (show u = Value.ref a from rx)
    obtain ⟨_, _, xs, _, o, es, ep, h1, h2, _⟩ := (show ObjOk X.prog X.w H s.heap a (.dT kvs) from I.hok a _ ea)
    exact PySem.W.kia_one PySem.W.kitx_dict I.kIn ⟨o, h1, h2.1⟩ e (fun z => nomatch z) h
  | @ins a C dx fs ea cl ha hn htk hm =>
    cases (show u = Value.ref a from rx)
    obtain ⟨mA, O, _⟩ := qBb I.hok ea
    obtain ⟨od, J, _⟩ := O.look
    exact PySem.W.kia_one (PySem.W.kitx_own (cl.get _) cl.hd ha hn htk hm) I.kIn J e (fun z => nomatch z) h
end
end L2
namespace L2
open PySem PySem.Spec PyProof.Rows
structure Room (k : Nat) (A : Around) : Prop where
  hd : A.handled = none
  dp : A.depth + 3 * k + 5 < recursionLimit
  un : A.units + 16 * k + 200 < cLine
theorem Room.mono {j k : Nat} {A : Around} (r : Room k A) (h : j ≤ k) : Room j A := ⟨r.hd, by have := r.dp; omega, by have := r.un; omega⟩
theorem Room.deeper {k : Nat} {A : Around} (r : Room (k + 1) A) (env : Env) : Room k (A.deeper env) :=
  ⟨r.hd, by have := r.dp; show A.depth + 1 + 3 * k + 5 < _; omega, by have := r.un; show A.units + 3 + 16 * k + 200 < _; omega⟩
theorem Room.in1 {k : Nat} {A : Around} (r : Room (k + 1) A) : Room k A.in1 :=
  ⟨r.hd, by have := r.dp; show A.depth + 3 * k + 5 < _; omega, by have := r.un; show A.units + 1 + 16 * k + 200 < _; omega⟩
theorem Room.depth {k : Nat} {A : Around} (r : Room k A) : A.depth < recursionLimit := by have := r.dp; omega
theorem Room.units {k : Nat} {A : Around} (r : Room k A) : A.units + 64 < cLine := by have := r.un; omega
theorem Room.units0 {k : Nat} {A : Around} (r : Room k A) : A.units < cLine := by have := r.un; omega
def qD9 : TA := fun _ H Q => Q [] H
def qC6 (ta : TE) (tr : TA) : TA := fun σ H Q => ta σ H fun x H1 => tr σ H1 fun xs H2 => Q (x :: xs) H2
section
variable {X : Cx} {e : Expr} {es : List Expr} {te : TE} {t : TA} {pos : Pos}
theorem qC : PA X [] qD9 := fun _ _ _ _ H Q I h => Calls.spliced_nil ⟨[], H, I, .nil, h⟩
theorem qA (ha : PE X e te) (hr : PA X es t) (hs : starEach (e :: es) X.env = (false, eval e X.env) :: starEach es X.env := by rfl) : PA X (e :: es) (qC6 te t) := by
  intro pos pins s σ H Q I h
  rw [hs]
  show wpAny _ _ (spliced ((false, eval e X.env) :: backTo pos (starEach es X.env))) _ _ s
  refine Calls.spliced_cons (thn (ha pins s σ H _ I h) fun u s1 ⟨x, H1, I1, r1, q1⟩ => ?_)
  exact thn (hr pos pins s1 σ H1 _ I1 q1) fun us s2 ⟨xs, H2, I2, r2, q2⟩ => ⟨x :: xs, H2, I2, .cons r1 r2, q2⟩
def qDt (t : TA) : TE := fun σ H Q => t σ H fun xs H1 => xs.length ≤ sizeLine ∧ ∀ p, H1 p = none → Q (.ref p) (upd H1 p (.tup xs))
def qDz (t : TA) : TE := fun σ H Q => t σ H fun xs H1 => xs.length ≤ sizeLine ∧ ∀ p, H1 p = none → Q (.ref p) (upd H1 p (.lst xs))
theorem qf {x1} (h : PA X es t) : PE X (.Tuple es x1 pos) (qDt t) := by
  intro pins s σ H Q I hq
  refine wpAny_Tuple_spliced (thn (h pos pins s σ H _ I hq) fun us s1 ⟨xs, H1, I1, r, z, q⟩ => ⟨by rw [← r.length]; exact z, ?_⟩)
  have hf : H1 s1.heap.objs.size = none := I1.hok.fresh (Nat.le_refl _)
  refine ⟨.ref s1.heap.objs.size, upd H1 s1.heap.objs.size (.tup xs), I1.laid (t' := s1.toks) (fun b u e => Heap.get?_push_of_some _ e) (Nat.le_refl _) ?_, rfl, q _ hf⟩
  exact ⟨z, us, r, ⟨_, Heap.get?_push_size _ rfl, rfl, _, rfl⟩⟩
theorem jZ (h : PA X es t) : PE X (.List es pos) (qDz t) := by
  intro pins s σ H Q I hq
  refine wpAny_List_spliced (thn (h pos pins s σ H _ I hq) fun us s1 ⟨xs, H1, I1, r, z, q⟩ => ⟨by rw [← r.length]; exact z, ?_⟩)
  have hf : H1 s1.heap.objs.size = none := I1.hok.fresh (Nat.le_refl _)
  refine ⟨.ref s1.heap.objs.size, upd H1 s1.heap.objs.size (.lst xs), I1.laid (t' := s1.toks) (fun b u e => Heap.get?_push_of_some _ e) (Nat.le_refl _) ?_, rfl, q _ hf⟩
  exact ⟨z, us, 0, r, Heap.get?_push_size _ rfl⟩
end
abbrev Sp := List V → Hp → VK → XK → Prop
abbrev CXT := List Env → Hp → Shared → XK → Value → Shared → Prop
structure Env0 (P : Program) (w : World) (K : PySem.W.Frag) (mg : Str → Option Value) (base : Heap) (A : Around) (outer : List Env) (s : Shared) (H : Hp) : Prop where
  frames : A.frames = some outer
  mod : Mod K mg base
  bs : ∀ b o, base.get? b = some o → s.heap.get? b = some o ∧ H b = none
  bsz : base.objs.size ≤ s.heap.objs.size
  funs : s.heap.FunFrames base outer
  frf : ∀ b ∈ frs outer, H b = none
  hok : HOk P w H s.heap
  bare : AllBare s.gens
def CE (outer : List Env) (P : Program) (w : World) (H : Hp) (s : Shared) (Q : VK) (u : Value) (s' : Shared) : Prop :=
  ∃ v H', s'.os = s.os ∧ AllBare s'.gens ∧ Un (frs outer) [] H H' s.heap s'.heap ∧ HOk P w H' s'.heap ∧ RelV v u ∧ Q v H'
def CR (CX : CXT) (outer : List Env) (P : Program) (w : World) (H : Hp) (s : Shared) (Q : VK) (E : XK) (r : Result) (s' : Shared) : Prop :=
  match r with
  | .ok (.ret u) => CE outer P w H s Q u s'
  | .ok _ => False
  | .error e => CX outer H s E e s'
structure FnOk (P : Program) (w : World) (K : PySem.W.Frag) (mg : Str → Option Value) (base : Heap) (CX : CXT) (k : Nat) (f : Addr) (fd : FuncData) (ps : List Str) (sp : Sp) : Prop where
  len : ∀ vs H Q E, sp vs H Q E → vs.length = ps.length
  run : ∀ (A : Around) (outer : List Env) (s : Shared) (H : Hp) (args : Args) (us : List Value) (vs : List V) (Q : VK) (E : XK), Room k A → Env0 P w K mg base A outer s H → BindsTo s fd args (ps.zip us) → Vals vs us → sp vs H Q E →
    codeAny (model P w) A (.call (.ref f) args) (CR CX outer P w H s Q E) s
theorem FnOk.mono {P : Program} {w : World} {K : PySem.W.Frag} {mg : Str → Option Value} {base : Heap} {CX : CXT} {j k : Nat} {f : Addr} {fd : FuncData} {ps : List Str} {sp : Sp} (F : FnOk P w K mg base CX j f fd ps sp) (h : j ≤ k) :
    FnOk P w K mg base CX k f fd ps sp := ⟨F.len, fun A outer s H args us vs Q E hr => F.run A outer s H args us vs Q E (hr.mono h)⟩
theorem FnOk.imp {P : Program} {w : World} {K : PySem.W.Frag} {mg : Str → Option Value} {base : Heap} {CX : CXT} {k : Nat} {f : Addr} {fd : FuncData} {ps : List Str} {sp sp' : Sp} (F : FnOk P w K mg base CX k f fd ps sp)
    (h : ∀ vs H Q E, sp' vs H Q E → sp vs H Q E) : FnOk P w K mg base CX k f fd ps sp' :=
  ⟨fun vs H Q E q => F.len vs H Q E (h _ _ _ _ q), fun A outer s H args us vs Q E hr he hb hv hs => F.run A outer s H args us vs Q E hr he hb hv (h _ _ _ _ hs)⟩
theorem Env0.in1 {P : Program} {w : World} {K : PySem.W.Frag} {mg : Str → Option Value} {base : Heap} {A : Around} {outer : List Env} {s : Shared} {H : Hp} (e : Env0 P w K mg base A outer s H) :
    Env0 P w K mg base A.in1 outer s H := ⟨e.frames, e.mod, e.bs, e.bsz, e.funs, e.frf, e.hok, e.bare⟩
section
variable {X : Cx} {pins : List (Addr × Obj)} {σ : St} {H : Hp} {s s' : Shared}
theorem Inv.env0 (I : Inv X pins σ H s) : Env0 X.prog X.w X.K X.mg X.base X.A X.stack s H :=
  ⟨I.ok.frames, I.ok.mod, I.bs, Nat.le_trans I.ok.bsz I.sz, I.stack, I.stkFree, I.hok, I.bare⟩
theorem Inv.after {Q : VK} {u : Value} (I : Inv X pins σ H s) (h : CE X.stack X.prog X.w H s Q u s') : EP X pins σ Q u s' := by
  obtain ⟨v, H', os, bare, un, hok, r, q⟩ := h
  obtain ⟨hh, g, d, t, os'⟩ := s'
  obtain rfl : os' = s.os := os
  exact ⟨v, H', I.call (h' := hh) (g' := g) (d' := d) (t' := t) (ch := []) un hok bare (fun b z => absurd z (by simp)), r, q⟩
end
def qAx (sp : Sp) (dvs : List V) (E : XK) (t : TA) : TE := fun σ H Q => t σ H fun vs H1 => sp (vs ++ dvs) H1 Q E
def Binds (K : PySem.W.Frag) (fd : FuncData) (ps : List Str) (ds : List Value) : Prop :=
  ∀ (s : Shared) (us : List Value), K.In s.heap → (us ++ ds).length = ps.length → BindsTo s fd ⟨us, []⟩ (ps.zip (us ++ ds))
theorem Binds.all {K : PySem.W.Frag} {fd : FuncData} {ps : List Str} (h : ∀ us : List Value, us.length = ps.length → bindArgs fd ⟨us, []⟩ = pure (ps.zip us)) : Binds K fd ps [] := fun s us _ hl => by
  rw [List.append_nil] at hl ⊢
  exact .of_eq (h us hl)
def vA (CX : CXT) (X : Cx) (E : XK) : Prop := ∀ (pins : List (Addr × Obj)) (σ : St) (H : Hp) (s : Shared) (e : Value) (s' : Shared), Inv X pins σ H s → CX X.stack H s E e s' → X.xe e s'
section
variable {X : Cx} {CX : CXT} {k : Nat} {f C : Addr} {fd : FuncData} {ps : List Str} {sp : Sp} {dvs : List V} {ds : List Value} {E : XK} {x m : Str} {p pos apos : Pos} {e o : Expr} {es : List Expr} {ta : TE} {t : TA}
theorem qB8 {pins : List (Addr × Obj)} {σ : St} {H : Hp} {s : Shared} {Q : VK} {us : List Value} {vs : List V} (F : FnOk X.prog X.w X.K X.mg X.base CX k f fd ps sp) (hr : Room k X.A) (hb : Binds X.K fd ps ds) (hd : Vals dvs ds) (hx : vA CX X E)
    (I : Inv X pins σ H s) (r : Vals vs us) (h : sp (vs ++ dvs) H Q E) : wpAny (model X.prog X.w) X.A (call (.ref f) us) (EP X pins σ Q) X.xe s := by
  have r2 : Vals (vs ++ dvs) (us ++ ds) := r.append hd
  have hl : (us ++ ds).length = ps.length := by rw [← r2.length]; exact F.len _ _ _ _ h
  refine wpAny_call (codeAny_mono (F.run X.A X.stack s H ⟨us, []⟩ (us ++ ds) (vs ++ dvs) Q E hr I.env0 (hb s us I.kIn hl) r2 h) fun r s' hq => ?_)
  cases r with
  | error e => exact hx pins σ H s e s' I hq
  | ok fl =>
    cases fl with
    | ret u => exact I.after hq
    | next => exact False.elim hq
    | brk => exact False.elim hq
    | cont => exact False.elim hq
theorem wR (F : FnOk X.prog X.w X.K X.mg X.base CX k f fd ps sp) (hr : Room k X.A) (hg : Gl X x) (hm : X.mg x = some (.ref f)) (hk : PySem.W.keepIn X.K (.ref f) = true) (hb : Binds X.K fd ps ds) (hd : Vals dvs ds) (hx : vA CX X E)
    (ha : PA X (e :: es) t) (hdb : (x == ("__debug__" : Str)) = false := by decide) (he : starEach (e :: es) X.env = (false, eval e X.env) :: starEach es X.env := by rfl) (hpl : (backTo pos (starEach es X.env)).any (·.1) = false := by rfl) :
    PE X (.Call (.Name x p) (e :: es) [] pos) (qAx sp dvs E t) := by
  intro pins s σ H Q I h
  refine wpAny_Call_Name_kw (zL I hg hm ?_ hdb)
  refine PySem.W.callWith_K (h₀ := X.base) I.ok.mod.kin hk (thn (ha pos pins s σ H _ I h) fun us s1 ⟨vs, H1, I1, r, q⟩ => ⟨I1.kIn, ?_⟩) he hpl
  exact qB8 F hr hb hd hx I1 r q
structure Mk (K : PySem.W.Frag) (C f : Addr) : Prop where
  makes : PySem.W.makesIn K C = true
  init : PySem.W.findIn K (.ref C) "__init__" = some (some (.ref f))
  fn : PySem.W.isFn K (.ref f) = true
  kp : PySem.W.keepIn K (.ref C) = true
end
section
variable {X : Cx} {CX : CXT} {k : Nat} {f C : Addr} {fd : FuncData} {ps ks : List Str} {sp : Sp} {E : XK} {x m : Str} {p pos apos kpos : Pos} {e o : Expr} {es : List Expr} {kws : List Keyword} {te ta : TE} {t tk : TA} {nm : Option Str}
structure KBinds (K : PySem.W.Frag) (fd : FuncData) (ps ks : List Str) (g : List Value → List Value → List Value) (gV : List V → List V → List V) : Prop where
  to : ∀ (s : Shared) (us ws : List Value), K.In s.heap → (g us ws).length = ps.length → BindsTo s fd ⟨us, ks.zip ws⟩ (ps.zip (g us ws))
  rel : ∀ {vs : List V} {us : List Value} {zs : List V} {ws : List Value}, Vals vs us → Vals zs ws → Vals (gV vs zs) (g us ws)
variable {g : List Value → List Value → List Value} {gV : List V → List V → List V}
end
structure qW (N P : List Str) (sc : Scope) : Prop where
  kind : sc.kind = .function
  co : sc.isCoroutine = false
  gen : sc.isGenerator = false
  nd : N.Nodup
  pre : N.take P.length = P
  par : ∀ x ∈ P, sc.names.lookup x = some .local ∨ sc.names.lookup x = some .cell
  nofree : ∀ y ∈ sc.names, y.2 ≠ .free
theorem kU {kindOf : Str → Option NameKind} {x : Str} : ∀ {binds : List (Str × Value)} {m : Str → Option Value}, (∀ v, (x, v) ∉ binds) → bindL kindOf binds m x = m x
  | [], _, _ => rfl
  | (n, v) :: r, m, h => by
    unfold bindL
    rw [kU fun w hw => h w (List.mem_cons_of_mem _ hw)]
    split
    · have : x ≠ n := by rintro rfl; exact h v List.mem_cons_self
      simp [this]
    · rfl
theorem z6 {kindOf : Str → Option NameKind} {x : Str} : ∀ {binds : List (Str × Value)} {m : Str → Option Value}, (∀ v, (x, v) ∉ binds) → bindC kindOf binds m x = m x
  | [], _, _ => rfl
  | (n, v) :: r, m, h => by
    unfold bindC
    rw [z6 fun w hw => h w (List.mem_cons_of_mem _ hw)]
    split
    · rfl
    · have : x ≠ n := by rintro rfl; exact h v List.mem_cons_self
      simp [this]
theorem z9 {kindOf : Str → Option NameKind} {x : Str} {v : Value} : ∀ {P : List Str} {vs : List Value} {i : Nat} {m : Str → Option Value}, P.Nodup → P[i]? = some x → vs[i]? = some v → kindOf x = some .local →
    bindL kindOf (P.zip vs) m x = some v
  | [], _, _, _, _, h, _, _ => by simp at h
  | _ :: _, [], _, _, _, _, h, _ => by simp at h
  | p :: P, w :: vs, 0, m, nd, h1, h2, hk => by
    simp at h1 h2; subst h1; subst h2
    show bindL kindOf ((p, w) :: P.zip vs) m p = _
    unfold bindL
    rw [kU fun v hv => (List.nodup_cons.mp nd).1 (List.of_mem_zip hv).1, if_pos hk]
    simp
  | p :: P, w :: vs, i + 1, m, nd, h1, h2, hk => by
    show bindL kindOf ((p, w) :: P.zip vs) m x = _
    unfold bindL
    exact z9 (i := i) (List.nodup_cons.mp nd).2 (by simpa using h1) (by simpa using h2) hk
theorem kF {kindOf : Str → Option NameKind} {x : Str} {v : Value} : ∀ {P : List Str} {vs : List Value} {i : Nat} {m : Str → Option Value}, P.Nodup → P[i]? = some x → vs[i]? = some v → kindOf x ≠ some .local →
    bindC kindOf (P.zip vs) m x = some v
  | [], _, _, _, _, h, _, _ => by simp at h
  | _ :: _, [], _, _, _, _, h, _ => by simp at h
  | p :: P, w :: vs, 0, m, nd, h1, h2, hk => by
    simp at h1 h2; subst h1; subst h2
    show bindC kindOf ((p, w) :: P.zip vs) m p = _
    unfold bindC
    rw [z6 fun v hv => (List.nodup_cons.mp nd).1 (List.of_mem_zip hv).1, if_neg hk]
    simp
  | p :: P, w :: vs, i + 1, m, nd, h1, h2, hk => by
    show bindC kindOf ((p, w) :: P.zip vs) m x = _
    unfold bindC
    exact kF (i := i) (List.nodup_cons.mp nd).2 (by simpa using h1) (by simpa using h2) hk
def zY (N : List Str) (vs : List V) : St := vs.map some ++ List.replicate (N.length - vs.length) none
def wW (CX : CXT) (P : Program) (w : World) (K : PySem.W.Frag) (mg : Str → Option Value) (base : Heap) (N : List Str) (qual : Str) (scope : Scope) (f : Addr) (cd : Value) (A : Around) (outer : List Env) (s : Shared) (H : Hp) (E : XK) : Cx where
  prog := P
  w := w
  K := K
  mg := mg
  base := base
  A := A.deeper (envOfC qual scope s.heap.objs.size f cd)
  N := N
  s₀ := s
  H₀ := H
  env := envOfC qual scope s.heap.objs.size f cd
  outer := outer
  stack := envOfC qual scope s.heap.objs.size f cd :: outer
  ex := []
  calm := true
  fn := fun _ => true
  pn := []
  xe := fun e s' => wpAny (model P w) (A.deeper (envOfC qual scope s.heap.objs.size f cd)) (leaving (envOfC qual scope s.heap.objs.size f cd) e) (fun _ s'' => CX outer H s E e s'') (fun e' s'' => CX outer H s E e' s'') s'
theorem vM {sc : Scope} {n : Nat} {x : Str} (h : sc.names.lookup x = some .cell) : ∃ c, (cellsFrom n sc.names []).lookup x = some c := by
  have q := PySem.W.cellsFrom_some sc.names n [] (.inl h)
  exact Option.isSome_iff_exists.mp q
theorem vm {CX : CXT} {P : Program} {w : World} {K : PySem.W.Frag} {mg : Str → Option Value} {base : Heap} {N ps : List Str} {qual : Str} {scope : Scope} {f : Addr} {cd : Value} {A : Around} {outer : List Env} {s s1 : Shared} {H : Hp} {E : XK} {us : List Value} {vs : List V}
    (S : qW N ps scope) (hd : A.handled = none) (e0 : Env0 P w K mg base A outer s H) (hl : vs.length = ps.length) (r : Vals vs us)
    (x : InCallC s s.heap.objs.size (bindL (envOfC qual scope s.heap.objs.size f cd).kindOf (ps.zip us) fun _ => none) (cellsFrom (s.heap.objs.size + 1) scope.names []) (bindC (envOfC qual scope s.heap.objs.size f cd).kindOf (ps.zip us) fun _ => none) s1) :
    Inv (wW CX P w K mg base N qual scope f cd A outer s H E) [] (zY N vs) H s1 := by
  have hpl : ps.length ≤ N.length := by have := congrArg List.length S.pre; rw [List.length_take] at this; omega
  obtain ⟨h1, tk, rfl, hk⟩ := x.done
  have noA : ∀ b : Addr, b ∉ (wW CX P w K mg base N qual scope f cd A outer s H E).ex := fun b z => absurd (show b ∈ ([] : List Addr) from z) (by simp)
  refine ⟨⟨e0.mod, S.kind, rfl, rfl, Nat.le_refl _, fun y z c h1 h2 => ?_, fun y hy => ?_, fun y c _ h => ?_, fun _ => hd, Around.frames_deeper e0.frames, .inr ⟨rfl, rfl⟩, fun b z => absurd z (noA b), e0.bs, e0.bsz, fun b _ _ => noA b, fun b z => absurd z (noA b), e0.funs, e0.frf⟩,
    rfl, e0.bare, Un.kept hk, ⟨_, x.toInCall.ns, fun i y v h1 h2 h3 => ?_⟩, fun y c h => ⟨_, x.cell y c h⟩, e0.hok.fresh (Nat.le_refl _), fun y c h => ?_, fun p hp => absurd (show p ∈ ([] : List (Addr × Obj)) from hp) (by simp), e0.hok.kept hk, ?_⟩
  · exact name_of_addr x.apart (PySem.mem_of_lookup h1) (PySem.mem_of_lookup h2)
  · have hy : scope.names.lookup y = some .cell ∨ scope.names.lookup y = some .free := hy
    rcases hy with hy | hy
    · exact vM hy
    · exact absurd rfl (S.nofree _ (PySem.mem_of_lookup hy))
  · exact Nat.le_of_lt (x.above y c (PySem.mem_of_lookup h))
  · have hi : i < vs.length := by
      unfold zY at h2
      by_cases hi : i < vs.length
      · exact hi
      · rw [List.getElem?_append_right (by simpa using hi)] at h2
        rw [List.getElem?_replicate] at h2
        split at h2 <;> cases h2
    have ha : vs[i]? = some v := by
      unfold zY at h2
      rw [List.getElem?_append_left (by simpa using hi), List.getElem?_map] at h2
      cases e : vs[i]? with
      | none => rw [e] at h2; cases h2
      | some a => rw [e] at h2; cases h2; rfl
    obtain ⟨u, hu, rv⟩ := r.get ha
    have hp : ps[i]? = some y := by
      rw [← S.pre, List.getElem?_take_of_lt (by omega)]; exact h1
    have ndP : ps.Nodup := by rw [← S.pre]; exact S.nd.sublist (List.take_sublist _ _)
    refine ⟨u, rv, ?_⟩
    rcases S.par y (List.mem_of_getElem? hp) with k | k
    · exact .inl ⟨k, z9 ndP hp hu k⟩
    · obtain ⟨c, e⟩ := vM (n := s.heap.objs.size + 1) k
      refine .inr ⟨.inl k, c, e, ?_⟩
      have q := x.cell y c e
      rw [kF ndP hp hu (by show scope.names.lookup y ≠ _; rw [k]; decide)] at q
      exact q
  · exact e0.hok.fresh (Nat.le_of_lt (x.above y c (PySem.mem_of_lookup h)))
  · unfold zY
    show _ = N.length
    rw [List.length_append, List.length_map, List.length_replicate]
    omega
theorem qBt {CX : CXT} {P : Program} {w : World} {K : PySem.W.Frag} {mg : Str → Option Value} {base : Heap} {k : Nat} {f : Addr} {name qual : Str} {params : Arguments} {body : List Stmt} {scope : Scope} {dV kV doc pm cdv ct oc : Value} {an od : Option Addr}
    {osl : Array (Option Value)} {N ps : List Str} {sp : Sp} (lk : K.lookup f = some ⟨oc, od, .func (PySem.W.fnOf name qual params body scope dV kV doc pm an cdv ct), osl⟩) (hcd : PySem.W.codeIn K cdv qual = true) (S : qW N ps scope)
    (len : ∀ vs H Q E, sp vs H Q E → vs.length = ps.length)
    (hbody : ∀ (A : Around) (outer : List Env) (s : Shared) (H : Hp) (vs : List V) (Q : VK) (E : XK), Room k (A.deeper (envOfC qual scope s.heap.objs.size f cdv)) → sp vs H Q E →
      ∃ t, PSs (wW CX P w K mg base N qual scope f cdv A outer s H E) body t ∧ t { nx := fun _ H' => Q .non H', rt := Q } (zY N vs) H) :
    FnOk P w K mg base CX (k + 1) f (PySem.W.fnOf name qual params body scope dV kV doc pm an cdv ct) ps sp := by
  refine ⟨len, fun A outer s H args us vs Q E hr e0 hb r hsp => ?_⟩
  have hl := len _ _ _ _ hsp
  have KX : K.In s.heap := e0.mod.kin.keeps fun b o e => (e0.bs b o e).1
  have lim : s.heap.NoLimit := e0.mod.nolimit.keeps fun b o e => (e0.bs b o e).1
  have hkind : ∀ y ∈ ps.zip us, scope.names.lookup y.1 = some .local ∨ (scope.names.lookup y.1 = some .cell ∧ ((cellsFrom (s.heap.objs.size + 1) scope.names []).lookup y.1).isSome = true) := fun ⟨n, v⟩ hy => by
    rcases S.par n (List.of_mem_zip hy).1 with q | q
    · exact .inl q
    · exact .inr ⟨q, PySem.W.cellsFrom_some _ _ _ (.inl q)⟩
  refine codeAny_call_function hr.depth (KX _ _ lk) rfl S.co S.gen rfl (PySem.W.codeRec_of KX hcd) (hb _ _ _ _ ?_)
  refine wpAny_newFunctionEnv_cells S.kind hkind fun env he s1 x => ?_
  subst he
  refine ⟨lim.keeps x.toInCall.keep, codeAny_func ?_⟩
  obtain ⟨t, ht, hq⟩ := hbody A outer s H vs Q E (hr.deeper _) hsp
  have I : Inv (wW CX P w K mg base N qual scope f cdv A outer s H E) [] (zY N vs) H s1 := vm S hr.hd e0 hl r x
  refine wpAny_mono (ht [] s1 (zY N vs) H _ I hq) (fun fl s' hs => ?_) fun e s' hs => hs
  have fin : ∀ {σ' : St} {H' : Hp} {v : V} {u : Value}, Inv (wW CX P w K mg base N qual scope f cdv A outer s H E) [] σ' H' s' → RelV v u → Q v H' → CE outer P w H s Q u s' :=
    fun {σ' H' v u} J rv q => ⟨v, H', J.os, J.bare, J.base, J.hok, rv, q⟩
  cases fl with
  | ret u =>
    obtain ⟨v, σ', H', J, rv, q⟩ := hs
    exact fin J rv q
  | next =>
    obtain ⟨σ', H', J, q⟩ := hs
    exact fin (v := V.non) (u := Value.none) J rfl q
  | brk =>
    obtain ⟨_, _, _, q⟩ := hs
    exact False.elim q
  | cont =>
    obtain ⟨_, _, _, q⟩ := hs
    exact False.elim q
end L2
namespace L2
open PySem PySem.Spec PyProof.Rows
section
variable {X : Cx} {x : Str} {p pos : Pos} {e : Expr} {es : List Expr} {t : TA} {id T : String} {r : List V → Hp → VK → Prop}
def tCB (r : List V → Hp → VK → Prop) (t : TA) : TE := fun σ H Q => t σ H fun vs H1 => r vs H1 Q
theorem qR (hc : CallR X (.builtin id) r) (hg : Gl X x) (hm : X.mg x = none) (hv : bootBuiltins x = some (.builtin id)) (ha : PA X (e :: es) t) (hn : x ≠ "__name__" := by decide) (hdb : (x == ("__debug__" : Str)) = false := by decide)
    (he : starEach (e :: es) X.env = (false, eval e X.env) :: starEach es X.env := by rfl) (hpl : (backTo pos (starEach es X.env)).any (·.1) = false := by rfl) : PE X (.Call (.Name x p) (e :: es) [] pos) (tCB r t) := by
  intro pins s σ H Q I h
  refine wpAny_Call_Name_kw (vH I hg hm hv ?_ hn hdb)
  exact PyProof.Rows.callWith_builtin1 (thn (ha pos pins s σ H _ I h) fun us s1 ⟨vs, H1, I1, r1, q1⟩ => hc pins s1 σ H1 vs us Q I1 r1 q1) he hpl
theorem wV (hc : CallR X (.type T) r) (hg : Gl X x) (hm : X.mg x = none) (hv : bootBuiltins x = some (.type T)) (ha : PA X (e :: es) t) (hn : x ≠ "__name__" := by decide) (hdb : (x == ("__debug__" : Str)) = false := by decide)
    (he : starEach (e :: es) X.env = (false, eval e X.env) :: starEach es X.env := by rfl) (hpl : (backTo pos (starEach es X.env)).any (·.1) = false := by rfl) : PE X (.Call (.Name x p) (e :: es) [] pos) (tCB r t) := by
  intro pins s σ H Q I h
  refine wpAny_Call_Name_kw (vH I hg hm hv ?_ hn hdb)
  exact PyProof.Rows.callWith_type1 (thn (ha pos pins s σ H _ I h) fun us s1 ⟨vs, H1, I1, r1, q1⟩ => hc pins s1 σ H1 vs us Q I1 r1 q1) he hpl
end
end L2
namespace HT
open PySem PyProof.Rows
section
open PySem.SeqAt
open PySem.AutoSeq1 (wpAny_loadPart')
open PySem.MeetsSeq PySem.MeetsSeq2 PySem.MeetsSeq3
end
section
variable {prog : Program} {w : World} {A : Around} {E : Value → Shared → Prop} {s : Shared}
def sIx (n d : Nat) : Option Int → Nat
  | none => d
  | some v => if v < 0 then (v + (n : Int)).toNat else min v.toNat n
theorem qCb (n d : Nat) (hd : d ≤ n) (o : Option Int) : sIx n d o ≤ n := by
  cases o with
  | none => exact hd
  | some v =>
    show (if v < 0 then (v + (n : Int)).toNat else min v.toNat n) ≤ n
    by_cases hv : v < 0
    · rw [if_pos hv]; omega
    · rw [if_neg hv]; exact Nat.min_le_right _ _
theorem wB (v : Int) (n d : Nat) : (if v < 0 then max (v + (n : Int)) 0 else min v (n : Int)) = ((sIx n d (some v) : Nat) : Int) := by
  show (if v < 0 then max (v + (n : Int)) 0 else min v (n : Int)) = (((if v < 0 then (v + (n : Int)).toNat else min v.toNat n) : Nat) : Int)
  by_cases hv : v < 0
  · simp only [if_pos hv]; omega
  · simp only [if_neg hv]; omega
theorem vh (lo hi : Option Int) (n : Nat) : Builtin.Slice.sliceAdjust lo hi 1 (n : Int) = (((sIx n 0 lo : Nat) : Int), ((sIx n n hi : Nat) : Int)) := by
  have h1 : ¬ ((1 : Int) < 0) := by omega
  unfold Builtin.Slice.sliceAdjust
  simp only [h1, if_false]
  refine Prod.ext ?_ ?_
  · cases lo with
    | none => rfl
    | some v => exact wB v n 0
  · cases hi with
    | none => rfl
    | some v => exact wB v n n
theorem vT (i j : Nat) : Builtin.Slice.slicePlaces (i : Int) (j : Int) 1 = j - i := by
  unfold Builtin.Slice.slicePlaces
  have h1 : (1 : Int) > 0 := by omega
  simp only [h1, if_true, Int.ediv_one]
  split <;> omega
theorem zG {v : Value} {o : Option Int} {Q : Option Int → Shared → Prop} (p : IsPart v o) (h : Q o s) : wpAny (model prog w) A (Builtin.Slice.slicePartIndex v) Q E s := by
  cases p with
  | none => exact slicePart_none h
  | int i t => exact slicePart_int h
theorem xT {sl : Addr} {vl vu : Value} {lo hi : Option Int} {n : Nat} {Q : Int × Int × Nat → Shared → Prop} (hs : s.heap.IsSliceOf sl vl vu .none) (pl : IsPart vl lo) (pu : IsPart vu hi)
    (h : Q (((sIx n 0 lo : Nat) : Int), 1, sIx n n hi - sIx n 0 lo) s) : wpAny (model prog w) A (Builtin.Slice.sliceApplied (.ref sl) (pure (n : Int))) Q E s := by
  obtain ⟨os, hos, hcs, hds⟩ := id hs
  unfold Builtin.Slice.sliceApplied Builtin.Slice.sliceFields
  refine wpAny_bind (wpAny_bind (wpAny_field hos hds (x := vl) rfl (wpAny_bind (wpAny_field hos hds (x := vu) rfl (wpAny_bind (wpAny_field hos hds (x := .none) rfl (wpAny_pure ?_)))))))
  refine wpAny_bind (slicePart_none ?_)
  show wpAny _ _ (if ((1 : Int) == 0) = true then _ else _) _ _ s
  rw [if_neg (by decide)]
  refine wpAny_bind (zG pl (wpAny_bind (zG pu (wpAny_bind (wpAny_pure ?_)))))
  show wpAny _ _ (match Builtin.Slice.sliceAdjust lo hi 1 (n : Int) with | (lo, hi) => pure (lo, (1 : Int), Builtin.Slice.slicePlaces lo hi 1)) _ _ s
  rw [vh lo hi n]
  show wpAny _ _ (pure (((sIx n 0 lo : Nat) : Int), (1 : Int), Builtin.Slice.slicePlaces ((sIx n 0 lo : Nat) : Int) ((sIx n n hi : Nat) : Int) 1)) _ _ s
  rw [vT]
  exact wpAny_pure h
theorem wz (xs : Array Value) (i k : Nat) : ((List.range k).filterMap fun (m : Nat) => xs[((i : Int) + (m : Int) * 1).toNat]?).toArray = ((xs.toList.drop i).take k).toArray := by
  have e : (fun (m : Nat) => xs[((i : Int) + (m : Int) * 1).toNat]?) = fun m => xs[i + m]? := by
    funext m
    have : ((i : Int) + (m : Int) * 1).toNat = i + m := by omega
    rw [this]
  rw [e]
  have := pick_run xs i k
  rw [List.filterMap_map] at this
  have e2 : ((fun x => xs[x]?) ∘ fun x => i + x) = fun m => xs[i + m]? := rfl
  rw [e2] at this
  rw [this]
theorem getItem_tuple_cut {t sl : Addr} {items : Array Value} {vl vu : Value} {lo hi : Option Int} {Q : Value → Shared → Prop} (ht : IsTup s.heap t items) (hs : s.heap.IsSliceOf sl vl vu .none) (pl : IsPart vl lo) (pu : IsPart vu hi)
    (hw : ¬ (sIx items.size 0 lo = 0 ∧ sIx items.size items.size hi = items.size))
    (h : Q (.ref s.heap.objs.size) { s with heap := s.heap.push { cls := .type "tuple", data := .seq ((items.toList.drop (sIx items.size 0 lo)).take (sIx items.size items.size hi - sIx items.size 0 lo)).toArray } })
    (hsz : items.size ≤ sizeLine) : wpAny (model prog w) A (getItem (.ref t) (.ref sl)) Q E s := by
  have htake : sizeOk (.seq ((items.toList.drop (sIx items.size 0 lo)).take (sIx items.size items.size hi - sIx items.size 0 lo)).toArray) := by
    show ((items.toList.drop (sIx items.size 0 lo)).take (sIx items.size items.size hi - sIx items.size 0 lo)).toArray.size ≤ sizeLine
    rw [List.size_toArray, List.length_take, List.length_drop, Array.length_toList]
    omega
  have hj : sIx items.size items.size hi ≤ items.size := qCb _ _ (Nat.le_refl _) hi
  obtain ⟨os, hos, hcs, hds⟩ := id hs
  have hTs : s.TypeIs (.ref sl) "slice" := ⟨os, hos, hcs⟩
  unfold getItem
  try with_reducible refine wpAny_holding ?_
  first | refine wpAny_bind (wpAny_pure ?_) | skip
  refine wpAny_bind (wpAny_sequenceKey ht.typeIs (by decide) ?_)
  refine wpAny_bind (wpAny_callSpecial?_slot (name := Str.ofString "__getitem__") ht.typeIs PyProof.Rows.slot_tuple_getitem
    (wpAny_call_entry PyProof.Rows.slot_tuple_getitem ht.typeIs entry_tuple_getitem ?_ (args_tuple_getitem _ _)))
  show wpAny _ _ (Builtin.Tuple.tupleItemsOf (.ref t) >>= _) _ _ s
  refine wpAny_bind (tupleItemsOf_ ht ?_)
  refine wpAny_bind (wpAny_typeOf hTs ?_)
  rw [if_pos (by decide)]
  refine wpAny_bind (xT hs pl pu ?_)
  have hno : ¬ ((((sIx items.size 0 lo : Nat) : Int) == 0 && (1 : Int) == 1 && (sIx items.size items.size hi - sIx items.size 0 lo) == items.size) = true) := by
    intro q
    rw [Bool.and_eq_true, Bool.and_eq_true] at q
    have q1 : ((sIx items.size 0 lo : Nat) : Int) = 0 := eq_of_beq q.1.1
    have q2 : sIx items.size items.size hi - sIx items.size 0 lo = items.size := eq_of_beq q.2
    exact hw ⟨by omega, by omega⟩
  show wpAny _ _ (if (((sIx items.size 0 lo : Nat) : Int) == 0 && (1 : Int) == 1 && (sIx items.size items.size hi - sIx items.size 0 lo) == items.size) = true then _ else _) _ _ s
  rw [if_neg hno, wz]
  first
    | exact wpAny_bind (m := Builtin.Tuple.tupleExact _) (wpAny_newObj_type (wpAny_pure ⟨_, rfl, wpAny_pure h⟩) htake)
    | exact wpAny_bind (m := Builtin.Tuple.tupleExact _) (wpAny_newObj_type (wpAny_bind (wpAny_pure (wpAny_pure ⟨_, rfl, wpAny_pure h⟩))) htake)
    | exact wpAny_bind (wpAny_bind (m := Builtin.Tuple.tupleExact _) (wpAny_newObj_type (wpAny_pure (wpAny_pure ⟨_, rfl, wpAny_pure h⟩)) htake))
    | exact wpAny_bind (wpAny_bind (m := Builtin.Tuple.tupleExact _) (wpAny_newObj_type (wpAny_pure ⟨_, rfl, wpAny_pure h⟩) htake))
end
end HT
namespace L2
open PySem PySem.Spec PyProof.Rows
abbrev TO := St → Hp → (Option Int → Hp → Prop) → Prop
def PO (X : Cx) (e : Option Expr) (t : TO) : Prop :=
  ∀ (pins : List (Addr × Obj)) (s : Shared) (σ : St) (H : Hp) (Q : Option Int → Hp → Prop), Inv X pins σ H s → t σ H Q →
    wpAny (model X.prog X.w) X.A (evalPart e X.env) (fun u s' => ∃ o H', Inv X pins σ H' s' ∧ IsPart u o ∧ Q o H') X.xe s
def qAw : TO := fun _ H Q => Q none H
def qCn (t : TE) : TO := fun σ H Q => t σ H fun x H1 => ∃ i, x = .int i ∧ Q (some i) H1
section
variable {X : Cx} {e : Expr} {te : TE} {lo hi : Option Expr} {tl th : TO} {pos p2 : Pos}
theorem v8 : PO X none qAw := by
  intro pins s σ H Q I h
  rw [evalPart_none]
  exact wpAny_pure ⟨none, H, I, .none, h⟩
theorem za (h : PE X e te) : PO X (some e) (qCn te) := by
  intro pins s σ H Q I hw
  rw [evalPart_some]
  refine thn (h pins s σ H _ I hw) fun u s1 ⟨x, H1, I1, r1, q1⟩ => ?_
  obtain ⟨i, rfl, q⟩ := q1
  obtain ⟨t, rfl⟩ := r1
  exact ⟨some i, H1, I1, .int i t, q⟩
def SlR (X : Cx) (r : V → Option Int → Option Int → Hp → VK → Prop) : Prop :=
  ∀ (pins : List (Addr × Obj)) (s : Shared) (σ : St) (H : Hp) (x : V) (v vl vu : Value) (lo hi : Option Int) (sl : Addr) (Q : VK), Inv X pins σ H s → RelV x v → s.heap.IsSliceOf sl vl vu .none → IsPart vl lo → IsPart vu hi → r x lo hi H Q →
    ∃ T id, typeLookup (.type T) "__getitem__" = pure (some (.builtin id)) ∧ s.TypeIs v T ∧ wpAny (model X.prog X.w) X.A (getItem v (.ref sl)) (EP X pins σ Q) X.xe s
theorem SlR.or {r r' : V → Option Int → Option Int → Hp → VK → Prop} (h : SlR X r) (h' : SlR X r') : SlR X (fun x lo hi H Q => r x lo hi H Q ∨ r' x lo hi H Q) := by
  intro pins s σ H x v vl vu lo hi sl Q I rx hs pl pu q
  rcases q with q | q
  · exact h pins s σ H x v vl vu lo hi sl Q I rx hs pl pu q
  · exact h' pins s σ H x v vl vu lo hi sl Q I rx hs pl pu q
def tSl (r : V → Option Int → Option Int → Hp → VK → Prop) (te : TE) (tl th : TO) : TE := fun σ H Q => te σ H fun x H1 => tl σ H1 fun l H2 => th σ H2 fun u H3 => r x l u H3 Q
theorem ze {r : V → Option Int → Option Int → Hp → VK → Prop} (hr : SlR X r) (he : PE X e te) (hl : PO X lo tl) (hu : PO X hi th) : PE X (.Subscript e (.Slice lo hi none p2) pos) (tSl r te tl th) := by
  intro pins s σ H Q I h
  refine Subscript_ (thn (he pins s σ H _ I h) fun v s1 ⟨x, H1, I1, r1, q1⟩ => ?_)
  refine wpAny_Slice (thn (hl pins s1 σ H1 _ I1 q1) fun vl s2 ⟨l, H2, I2, pl, q2⟩ => thn (hu pins s2 σ H2 _ I2 q2) fun vu s3 ⟨u, H3, I3, pu, q3⟩ => ?_)
  rw [evalPart_none]
  refine wpAny_pure ?_
  have I4 : Inv X pins σ H3 { s3 with heap := s3.heap.push { cls := .type "slice", data := .fields #[vl, vu, .none] } } := I3.kept (t' := s3.toks) fun b ob q => Heap.get?_push_of_some _ q
  obtain ⟨T, id, hT, ht, hg⟩ := hr pins { s3 with heap := s3.heap.push { cls := .type "slice", data := .fields #[vl, vu, .none] } } σ H3 x v vl vu l u s3.heap.objs.size Q I4 r1 (Heap.IsSliceOf.new ..) pl pu q3
  show wpAny (model X.prog X.w) X.A (subscriptTail e (.Slice lo hi none p2) v (.ref s3.heap.objs.size)) (EP X pins σ Q) X.xe { s3 with heap := s3.heap.push { cls := .type "slice", data := .fields #[vl, vu, .none] } }
  exact tail_any (ops := [.ref s3.heap.objs.size, v]) ht hT hg (by with_unfolding_all rfl)
def qAd (xs : List V) (lo hi : Option Int) : List V := (xs.drop (HT.sIx xs.length 0 lo)).take (HT.sIx xs.length xs.length hi - HT.sIx xs.length 0 lo)
theorem xt (xs : List V) (lo hi : Option Int) : (qAd xs lo hi).length ≤ xs.length := by
  unfold qAd
  rw [List.length_take, List.length_drop]
  omega
def qD3 (K : PySem.W.Frag) : V → Option Int → Option Int → Hp → VK → Prop := fun x lo hi H Q => ∃ a xs, x = .ref a ∧ SqT K H a xs ∧
  ¬ (HT.sIx xs.length 0 lo = 0 ∧ HT.sIx xs.length xs.length hi = xs.length) ∧ ∀ p, H p = none → Q (.ref p) (upd H p (.tup (qAd xs lo hi)))
theorem qAr : SlR X (qD3 X.K) := by
  intro pins s σ H x v vl vu lo hi sl Q I rx hs pl pu h
  obtain ⟨a, xs, rfl, hx, hw, q⟩ := h
  cases rx
  obtain ⟨its, r, ht, hz⟩ := I.tuple hx
  have hlen : its.toArray.size = xs.length := by rw [List.size_toArray]; exact r.length.symm
  refine ⟨"tuple", _, PyProof.Rows.slot_tuple_getitem.lookup, ht.typeIs, ?_⟩
  refine HT.getItem_tuple_cut ht hs pl pu (by rw [hlen]; exact hw) ?_ (by rw [hlen]; exact hz)
  rw [hlen]
  refine ⟨.ref s.heap.objs.size, _, I.laid (t' := s.toks) (o := .tup (qAd xs lo hi)) (fun b ob q => Heap.get?_push_of_some _ q) (Nat.le_refl _) ?_, rfl, q _ (I.hok.fresh (Nat.le_refl _))⟩
  exact ⟨Nat.le_trans (xt xs lo hi) hz, _, (r.drop (HT.sIx xs.length 0 lo)).take (HT.sIx xs.length xs.length hi - HT.sIx xs.length 0 lo), IsTup.new _ _⟩
end
end L2
namespace L2
open PySem PySem.Spec PyProof.Rows
def ixN (n : Nat) (i : Int) : Option Nat := if 0 ≤ i then (if i < n then some i.toNat else none) else if -(n : Int) ≤ i then some (i + n).toNat else none
def atI {α : Type} (xs : List α) (i : Int) : Option α := (ixN xs.length i).bind fun j => xs[j]?
theorem qAy {n : Nat} {i : Int} {j : Nat} (h : ixN n i = some j) : seqIndex? i n = some j ∧ j < n ∧ -(n : Int) ≤ i ∧ i < n := by
  unfold ixN at h
  by_cases h0 : 0 ≤ i
  · rw [if_pos h0] at h
    by_cases h1 : i < n
    · rw [if_pos h1] at h
      have e : i.toNat = j := Option.some.inj h
      exact ⟨by rw [seqIndex_of h0 h1, e], by omega, by omega, h1⟩
    · rw [if_neg h1] at h; cases h
  · rw [if_neg h0] at h
    by_cases h1 : -(n : Int) ≤ i
    · rw [if_pos h1] at h
      have e : (i + n).toNat = j := Option.some.inj h
      exact ⟨by rw [seqIndex_neg (by omega) h1, e], by omega, h1, by omega⟩
    · rw [if_neg h1] at h; cases h
theorem v0 {α : Type} {xs : List α} {i : Int} {v : α} (h : atI xs i = some v) : ∃ j, seqIndex? i xs.length = some j ∧ xs[j]? = some v ∧ j < xs.length ∧ -(xs.length : Int) ≤ i ∧ i < xs.length := by
  unfold atI at h
  cases e : ixN xs.length i with
  | none => rw [e] at h; cases h
  | some j =>
    rw [e] at h
    obtain ⟨h1, h2, h3, h4⟩ := qAy e
    exact ⟨j, h1, h, h2, h3, h4⟩
theorem zd {α : Type} {xs : List α} {j : Nat} {v : α} (h : xs[j]? = some v) : atI xs (j : Int) = some v := by
  have hj : j < xs.length := (List.getElem?_eq_some_iff.mp h).1
  have e : ixN xs.length (j : Int) = some j := by
    unfold ixN
    rw [if_pos (by omega), if_pos (by omega)]; simp
  unfold atI; rw [e]; exact h
def qAv (b : Expr) : Prop := ∀ o i, subscripted b false o i = operate [o, i] (getItem o i)
def IxR (X : Cx) (r : R2) : Prop :=
  ∀ (value slice : Expr) (pins : List (Addr × Obj)) (s : Shared) (σ : St) (H : Hp) (x y : V) (v u : Value) (Q : VK), Inv X pins σ H s → RelV x v → RelV y u → r x y H Q →
    subscripted slice false v u = operate [v, u] (getItem v u) → wpAny (model X.prog X.w) X.A (subscriptTail value slice v u) (EP X pins σ Q) X.xe s
def MtR (X : Cx) (id : String) (r : V → List V → Hp → VK → Prop) : Prop :=
  ∀ (pins : List (Addr × Obj)) (s : Shared) (σ : St) (H : Hp) (x : V) (xs : List V) (v : Value) (us : List Value) (Q : VK), Inv X pins σ H s → RelV x v → Vals xs us → r x xs H Q →
    wpAny (model X.prog X.w) X.A (call (.builtin id) (v :: us)) (EP X pins σ Q) X.xe s
section
variable {X : Cx} {a b : Expr} {ta tb : TE} {pos : Pos}
theorem IxR.or {r r' : R2} (h : IxR X r) (h' : IxR X r') : IxR X (fun x y H Q => r x y H Q ∨ r' x y H Q) := by
  intro value slice pins s σ H x y v u Q I rx ry q hs
  rcases q with q | q
  · exact h value slice pins s σ H x y v u Q I rx ry q hs
  · exact h' value slice pins s σ H x y v u Q I rx ry q hs
theorem MtR.or {id : String} {r r' : V → List V → Hp → VK → Prop} (h : MtR X id r) (h' : MtR X id r') : MtR X id (fun x xs H Q => r x xs H Q ∨ r' x xs H Q) := by
  intro pins s σ H x xs v us Q I rx rs q
  rcases q with q | q
  · exact h pins s σ H x xs v us Q I rx rs q
  · exact h' pins s σ H x xs v us Q I rx rs q
theorem qK {r : R2} (hr : IxR X r) (ha : PE X a ta) (hb : PE X b tb) (hs : qAv b) : PE X (.Subscript a b pos) (tOp r ta tb) := by
  intro pins s σ H Q I h
  exact Subscript_ (qCy ha hb I h fun v u s2 x y H2 I2 rx ry q => hr a b pins s2 σ H2 x y v u Q I2 rx ry q (hs _ _))
def qDx (K : PySem.W.Frag) : R2 := fun x y H Q => ∃ p xs i v, x = .ref p ∧ y = .int i ∧ SqL K H p xs ∧ atI xs i = some v ∧ Q v H
def qDa (K : PySem.W.Frag) : R2 := fun x y H Q => ∃ p xs i v, x = .ref p ∧ y = .int i ∧ SqT K H p xs ∧ atI xs i = some v ∧ Q v H
theorem qZ : IxR X (qDx X.K) := by
  intro value slice pins s σ H x y v u Q I rx ry h hs
  obtain ⟨p, xs, i, z, rfl, rfl, hq, he, q⟩ := h
  cases rx
  obtain ⟨t, rfl⟩ := ry
  obtain ⟨its, r, pl, hz⟩ := I.list hq
  obtain ⟨j, h1, h2, h3, h4, h5⟩ := v0 he
  obtain ⟨w, ew, rw'⟩ := r.get h2
  have hl := r.length
  have hn := v6
  have fin : EP X pins σ Q w s := ⟨z, H, I, rw', q⟩
  by_cases h0 : 0 ≤ i
  · have hj : i.toNat = j := by
      rw [seqIndex_of h0 h5] at h1
      exact Option.some.inj h1
    exact item_listR pl.isList h0 (by omega) (by rw [hj]; simpa using ew) fin hs
  · have hj : (i + (its.toArray.size : Int)).toNat = j := by
      rw [seqIndex_neg (by omega) h4] at h1
      rw [List.size_toArray, ← hl]
      exact Option.some.inj h1
    exact subscriptTail_builtinR (x := w) pl.isList.typeIs slot_list_getitem.lookup
      (wpAny_getItem_list_neg (Q := fun r s' => r = w ∧ EP X pins σ Q r s') pl.isList (by omega) (by rw [List.size_toArray] <;> omega) (by omega) (by rw [hj]; simpa using ew) ⟨rfl, fin⟩) hs
theorem qJ : IxR X (qDa X.K) := by
  intro value slice pins s σ H x y v u Q I rx ry h hs
  obtain ⟨p, xs, i, z, rfl, rfl, hq, he, q⟩ := h
  cases rx
  obtain ⟨t, rfl⟩ := ry
  obtain ⟨its, r, pl, hz⟩ := I.tuple hq
  obtain ⟨j, h1, h2, h3, h4, h5⟩ := v0 he
  obtain ⟨w, ew, rw'⟩ := r.get h2
  have hl := r.length
  have hn := v6
  have fin : EP X pins σ Q w s := ⟨z, H, I, rw', q⟩
  exact subscriptTail_builtinR (x := w) pl.typeIs slot_tuple_getitem.lookup
    (getItem_tuple (j := j) (Q := fun r s' => r = w ∧ EP X pins σ Q r s') pl (by omega) (by omega) (by rw [List.size_toArray, ← hl]; exact h1) (by simpa using ew) ⟨rfl, fin⟩) hs
theorem Inv.lst {pins : List (Addr × Obj)} {σ : St} {H : Hp} {s : Shared} {p : Addr} {xs : List V} (I : Inv X pins σ H s) (h : H p = some (.lst xs)) :
    ∃ (its : List Value) (n : Nat), Vals xs its ∧ s.heap.get? p = some { cls := .type "list", data := .seq its.toArray n } ∧ xs.length ≤ sizeLine := by
  obtain ⟨z, its, n, r, e⟩ := I.hok p _ h
  exact ⟨its, n, r, e, z⟩
theorem kP (lo hi : Option Int) (n : Nat) : (sliceBounds lo hi none n).1 = ((HT.sIx n 0 lo : Nat) : Int) ∧ (sliceBounds lo hi none n).2.1 = ((HT.sIx n n hi : Nat) : Int) ∧ (sliceBounds lo hi none n).2.2 = 1 := by
  refine ⟨?_, ?_, rfl⟩
  · cases lo with
    | none => simp [sliceBounds, HT.sIx]
    | some i =>
      simp only [sliceBounds, HT.sIx, Option.getD_none, show (1 : Int) > 0 by decide, if_true]
      by_cases h : i < 0
      · simp only [h, if_true] <;> omega
      · simp only [h, if_false] <;> omega
  · cases hi with
    | none => simp [sliceBounds, HT.sIx]
    | some i =>
      simp only [sliceBounds, HT.sIx, Option.getD_none, show (1 : Int) > 0 by decide, if_true]
      by_cases h : i < 0
      · simp only [h, if_true] <;> omega
      · simp only [h, if_false] <;> omega
theorem zk (its : List Value) (lo hi : Option Int) : slicePick its.toArray lo hi none = ((its.drop (HT.sIx its.length 0 lo)).take (HT.sIx its.length its.length hi - HT.sIx its.length 0 lo)).toArray := by
  obtain ⟨h1, h2, h3⟩ := kP lo hi its.toArray.size
  unfold slicePick
  rw [h1, h2, h3]
  simp only [sliceRange_one, pick_run, List.size_toArray] <;> rfl
def qDy (K : PySem.W.Frag) : V → Option Int → Option Int → Hp → VK → Prop := fun x lo hi H Q => ∃ a xs, x = .ref a ∧ SqL K H a xs ∧ ∀ p, H p = none → Q (.ref p) (upd H p (.lst (qAd xs lo hi)))
theorem qAu : SlR X (qDy X.K) := by
  intro pins s σ H x v vl vu lo hi sl Q I rx hs pl pu h
  obtain ⟨a, xs, rfl, hx, q⟩ := h
  cases rx
  obtain ⟨its, r, ht, hz⟩ := I.list hx
  have hlen := r.length
  refine ⟨"list", _, slot_list_getitem.lookup, ht.isList.typeIs, ?_⟩
  refine wpAny_getItem_list_slice ht.isList hs pl pu .none (by simp) ?_ (by rw [List.size_toArray] <;> omega)
  rw [zk, ← hlen]
  refine ⟨.ref s.heap.objs.size, _, I.laid (t' := s.toks) (o := .lst (qAd xs lo hi)) (fun b ob q => Heap.get?_push_of_some _ q) (Nat.le_refl _) ?_, rfl, q _ (I.hok.fresh (Nat.le_refl _))⟩
  exact ⟨Nat.le_trans (xt xs lo hi) hz, _, 0, (r.drop (HT.sIx xs.length 0 lo)).take (HT.sIx xs.length xs.length hi - HT.sIx xs.length 0 lo), Heap.get?_push_size _ rfl⟩
def jv : V → Bool
  | .non => true
  | .bl _ => true
  | .int _ => true
  | .str _ => true
  | _ => false
def eqV : V → V → Bool
  | .non, .non => true
  | .bl a, .bl b => a == b
  | .bl a, .int b => (if a then 1 else 0) == b
  | .int a, .bl b => a == (if b then 1 else 0)
  | .int a, .int b => a == b
  | .str a, .str b => a == b
  | _, _ => false
theorem vG {A : Around} {s : Shared} {y x : V} {u v : Value} (ry : RelV y u) (rx : RelV x v) (fy : jv y = true) (fx : jv x = true) : SeqAt.EqAt A s u v (eqV y x) := by
  cases y with
  | non =>
    cases ry
    cases x with
    | non => cases rx; exact SeqAt.EqAt.same _
    | bl b => cases rx; exact SeqAt.EqAt.none_bool b
    | int b => obtain ⟨t, rfl⟩ := rx; exact SeqAt.EqAt.none_int b t
    | str b => obtain ⟨t, rfl⟩ := rx; exact SeqAt.EqAt.none_str b t
    | _ => exact absurd (show false = true from fx) Bool.false_ne_true
  | bl a =>
    cases ry
    cases x with
    | non => cases rx; exact SeqAt.EqAt.bool_none a
    | bl b => cases rx; exact SeqAt.EqAt.bool_bool a b
    | int b => obtain ⟨t, rfl⟩ := rx; exact SeqAt.EqAt.bool_int a b t
    | str b => obtain ⟨t, rfl⟩ := rx; exact SeqAt.EqAt.bool_str a b t
    | _ => exact absurd (show false = true from fx) Bool.false_ne_true
  | int a =>
    obtain ⟨t', rfl⟩ := ry
    cases x with
    | non => cases rx; exact SeqAt.EqAt.int_none a t'
    | bl b => cases rx; exact SeqAt.EqAt.int_bool a t' b
    | int b => obtain ⟨t, rfl⟩ := rx; exact SeqAt.EqAt.int_int a t' b t
    | str b => obtain ⟨t, rfl⟩ := rx; exact SeqAt.EqAt.int_str a t' b t
    | _ => exact absurd (show false = true from fx) Bool.false_ne_true
  | str a =>
    obtain ⟨t', rfl⟩ := ry
    cases x with
    | non => cases rx; exact SeqAt.EqAt.str_none a t'
    | bl b => cases rx; exact SeqAt.EqAt.str_bool a t' b
    | int b => obtain ⟨t, rfl⟩ := rx; exact SeqAt.EqAt.str_int a t' b t
    | str b => obtain ⟨t, rfl⟩ := rx; exact SeqAt.EqAt.str_str a t' b t
    | _ => exact absurd (show false = true from fx) Bool.false_ne_true
  | _ => exact absurd (show false = true from fy) Bool.false_ne_true
theorem qo : CallR X (.builtin "len") (fun xs H Q => ∃ p ys, xs = [.ref p] ∧ (SqL X.K H p ys ∨ SqT X.K H p ys) ∧ Q (.int ys.length) H) := by
  intro pins s σ H xs us Q I r h
  obtain ⟨p, ys, rfl, hq, q⟩ := h
  obtain ⟨u, rfl, rx⟩ := wr r
  cases rx
  have hn := v6
  rcases hq with hq | hq
  · obtain ⟨its, r', pl, hz⟩ := I.list hq
    have hlen := r'.length
    exact Calls.call_len_list pl.isList (by simp only [List.size_toArray] <;> omega) ⟨.int ys.length, H, I.tok _, ⟨s.toks + 1, by rw [List.size_toArray, hlen]⟩, q⟩
  · obtain ⟨its, r', pl, hz⟩ := I.tuple hq
    have hlen := r'.length
    exact len_tuple pl (by simp only [List.size_toArray] <;> omega) ⟨.int ys.length, H, I.tok _, ⟨s.toks + 1, by rw [List.size_toArray, hlen]⟩, q⟩
theorem CallR.or {f : Value} {r r' : List V → Hp → VK → Prop} (h : CallR X f r) (h' : CallR X f r') : CallR X f (fun xs H Q => r xs H Q ∨ r' xs H Q) := by
  intro pins s σ H xs us Q I rs q
  rcases q with q | q
  · exact h pins s σ H xs us Q I rs q
  · exact h' pins s σ H xs us Q I rs q
theorem z7 : CallR X (.type "list") (fun xs H Q => ∃ p ys, xs = [.ref p] ∧ (SqL X.K H p ys ∨ SqT X.K H p ys) ∧ ∀ l, H l = none → Q (.ref l) (upd H l (.lst ys))) := by
  intro pins s σ H xs us Q I r h
  obtain ⟨p, ys, rfl, hq, q⟩ := h
  obtain ⟨u, rfl, rx⟩ := wr r
  cases rx
  have fin : ∀ (its : List Value), Vals ys its → ys.length ≤ sizeLine → ∀ (h' : Heap) (c' : Nat), (∀ b o', s.heap.get? b = some o' → h'.get? b = some o') →
      h'.get? s.heap.objs.size = some { cls := .type "list", dict := none, data := .seq its.toArray c', slots := #[] } → EP X pins σ Q (.ref s.heap.objs.size) { s with heap := h' } := fun its r' hz h' c' kp e =>
    ⟨.ref s.heap.objs.size, _, I.laid (t' := s.toks) kp (Nat.le_refl _) (show ObjOk X.prog X.w _ h' _ (.lst ys) from ⟨hz, its, c', r', e⟩), rfl, q _ (I.hok.fresh (Nat.le_refl _))⟩
  rcases hq with hq | hq
  · obtain ⟨its, r', pl, hz⟩ := I.list hq
    have hlen := r'.length
    obtain ⟨o, ho, hc, n, hd⟩ := pl.isList
    exact call_list_seq p (.inl rfl) ho hc hd (fun h' c' kp e => fin its r' hz h' c' kp e) (by simp only [List.size_toArray] <;> omega)
  · obtain ⟨its, r', pl, hz⟩ := I.tuple hq
    have hlen := r'.length
    obtain ⟨o, ho, hc, n, hd⟩ := pl
    exact call_list_seq p (.inr rfl) ho hc hd (fun h' c' kp e => fin its r' hz h' c' kp e) (by simp only [List.size_toArray] <;> omega)
def tyV (K : PySem.W.Frag) (T : String) (x : V) (H : Hp) : Prop := match x with
  | .str _ => T = "str"
  | .int _ => T = "int"
  | .ref p => (T = "list" ∧ ∃ xs, SqL K H p xs) ∨ (T = "tuple" ∧ ∃ o, K.lookup p = some o ∧ o.cls = .type "tuple" ∧ o.dict = none) ∨
      (T = "dict" ∧ ((∃ kvs, H p = some (.dK kvs)) ∨ ∃ kvs, H p = some (.dT kvs))) ∨ (T = "set" ∧ ∃ S n, H p = some (.set S n))
  | _ => False
theorem qAh {pins : List (Addr × Obj)} {σ : St} {H : Hp} {s : Shared} {T : String} {x : V} {v : Value} (I : Inv X pins σ H s) (r : RelV x v) (ty : tyV X.K T x H) :
    s.TypeIs v T ∧ ∀ a, v = .ref a → ∃ ob, s.heap.get? a = some ob ∧ ob.dict = none := by
  cases x with
  | str z =>
    obtain ⟨t, rfl⟩ := r
    cases (show T = "str" from ty)
    exact ⟨typeIs_str s z t, fun _ e => nomatch e⟩
  | int i =>
    obtain ⟨t, rfl⟩ := r
    cases (show T = "int" from ty)
    exact ⟨typeIs_int s i t, fun _ e => nomatch e⟩
  | ref p =>
    cases r
    rcases ty with ⟨rfl, xs, hq⟩ | ⟨rfl, o, hk, hc, hd⟩ | ⟨rfl, hk⟩ | ⟨rfl, S, n, hk⟩
    · obtain ⟨its, _, pl, _⟩ := I.list hq
      refine ⟨pl.isList.typeIs, fun a e => ?_⟩
      cases e
      obtain ⟨o, n, e, c, hd, _⟩ := pl
      exact ⟨o, e, hd⟩
    · refine ⟨⟨o, I.kIn p o hk, hc⟩, fun a e => ?_⟩
      cases e
      exact ⟨o, I.kIn _ o hk, hd⟩
    · have z : ∃ o, s.heap.get? p = some o ∧ o.ExactDict := by
        rcases hk with ⟨kvs, hk⟩ | ⟨kvs, hk⟩
        · obtain ⟨_, _, _, _, o, _, _, e, ex, _⟩ := I.hok p _ hk
          exact ⟨o, e, ex⟩
        · obtain ⟨_, _, _, _, o, _, _, e, ex, _⟩ := I.hok p _ hk
          exact ⟨o, e, ex⟩
      obtain ⟨o, e, ex⟩ := z
      refine ⟨⟨o, e, ex.1⟩, fun a e2 => ?_⟩
      cases e2
      exact ⟨o, e, ex.2.1⟩
    · obtain ⟨o, _, _, _, e, ex, _⟩ := I.hok p _ hk
      refine ⟨⟨o, e, ex.1⟩, fun a e2 => ?_⟩
      cases e2
      exact ⟨o, e, ex.2.1⟩
  | _ => exact False.elim ty
def qDv (K : PySem.W.Frag) (T : String) (r : V → List V → Hp → VK → Prop) (to : TE) : TE := fun σ H Q => to σ H fun x H1 => tyV K T x H1 ∧ r x [] H1 Q
def tBM (K : PySem.W.Frag) (T : String) (r : V → List V → Hp → VK → Prop) (to : TE) (t : TA) : TE := fun σ H Q => to σ H fun x H1 => tyV K T x H1 ∧ t σ H1 fun xs H2 => r x xs H2 Q
variable {o e : Expr} {es : List Expr} {to : TE} {t : TA} {name : Str} {apos cpos : Pos} {T id : String} {r : V → List V → Hp → VK → Prop}
theorem qCe (pa : PlainAttrs T) (slot : Slot T name id) (hty : typeOf (.builtin id) = pure (.type "method_descriptor")) (hm : MtR X id r) (ho : PE X o to)
    (hbase : attributeBase o name X.env (eval o X.env) = eval o X.env := by rfl) (hline : (apos.endLine == cpos.line) = true := by rfl) : PE X (.Call (.Attribute o name apos) [] [] cpos) (qDv X.K T r to) := by
  intro pins s σ H Q I h
  refine wpAny_Call_method0_late hbase hline (thn (ho pins s σ H _ I h) fun v s1 ⟨x, H1, I1, r1, ty, q1⟩ => ?_)
  obtain ⟨h1, h2⟩ := qAh I1 r1 ty
  exact ⟨T, id, pa, slot, hty, h1, h2, Calls.callWith_builtin rfl (PySem.evalArgs_none (hm pins s1 σ H1 x [] v [] Q I1 r1 .nil q1))⟩
theorem we (pa : PlainAttrs T) (slot : Slot T name id) (hty : typeOf (.builtin id) = pure (.type "method_descriptor")) (hm : MtR X id r) (ho : PE X o to) (ha : PA X (e :: es) t)
    (hbase : attributeBase o name X.env (eval o X.env) = eval o X.env := by rfl)
    (hfew : ((backTo cpos (starEach (e :: es) X.env)).all (fun x => !x.1) && (backToKw cpos (keywordEach [] X.env)).all (fun x => x.1.isSome)
      && decide ((e :: es).length + ([] : List Keyword).length + (if ([] : List Keyword).isEmpty then 0 else 1) < 30)) = true := by rfl)
    (hline : (apos.endLine == cpos.line) = true := by rfl) (hs : starEach (e :: es) X.env = (false, eval e X.env) :: starEach es X.env := by rfl) (hplain : (backTo cpos (starEach es X.env)).any (·.1) = false := by rfl) :
    PE X (.Call (.Attribute o name apos) (e :: es) [] cpos) (tBM X.K T r to t) := by
  intro pins s σ H Q I h
  refine wpAny_Call_method_late hbase hfew hline rfl (thn (ho pins s σ H _ I h) fun v s1 ⟨x, H1, I1, r1, ty, q1⟩ => ?_)
  obtain ⟨h1, h2⟩ := qAh I1 r1 ty
  refine ⟨T, id, pa, slot, hty, h1, h2, ?_⟩
  have hA := ha cpos pins s1 σ H1 _ I1 q1
  rw [hs] at hA ⊢
  refine Calls.callWith_builtin (by show (false || (backTo cpos (starEach es X.env)).any (·.1)) = false; rw [hplain] <;> rfl) (Calls.evalArgs_plain ?_)
  exact thn hA fun us s2 ⟨vs, H2, I2, r2, q2⟩ => hm pins s2 σ H2 x vs v us Q I2 r1 r2 q2
end
end L2
namespace L2
open PySem PySem.Spec PyProof.Rows
def MtM (X : Cx) (id : String) (r : V → List V → Hp → VK → Prop) : Prop :=
  ∀ (pins : List (Addr × Obj)) (s : Shared) (σ : St) (H : Hp) (x : V) (xs : List V) (v : Value) (us : List Value) (Q : VK), Inv X pins σ H s → RelV x v → Vals xs us → r x xs H Q →
    wpAny (model X.prog X.w) X.A (call (.builtin id) (v :: us)) (EP X pins σ Q) X.xe s
theorem Vals.one : ∀ {x : V} {us : List Value}, Vals [x] us → ∃ u, us = [u] ∧ RelV x u
  | _, _, .cons r .nil => ⟨_, rfl, r⟩
theorem Vals.two : ∀ {x y : V} {us : List Value}, Vals [x, y] us → ∃ u v, us = [u, v] ∧ RelV x u ∧ RelV y v
  | _, _, _, .cons r (.cons q .nil) => ⟨_, _, rfl, r, q⟩
theorem Vals.zero : ∀ {us : List Value}, Vals [] us → us = []
  | _, .nil => rfl
theorem Vals.dropLast {xs : List V} {us : List Value} (h : Vals xs us) : Vals xs.dropLast us.dropLast := by
  induction h with
  | nil => exact .nil
  | cons r t ih =>
    cases t with
    | nil => exact .nil
    | cons q t' => exact .cons r ih
theorem Vals.eraseIdx : ∀ {xs : List V} {us : List Value} (i : Nat), Vals xs us → Vals (xs.eraseIdx i) (us.eraseIdx i)
  | _, _, _, .nil => .nil
  | _, _, 0, .cons _ t => t
  | _, _, i + 1, .cons r t => .cons r (Vals.eraseIdx i t)
theorem Vals.reverse {xs : List V} {us : List Value} (h : Vals xs us) : Vals xs.reverse us.reverse := by
  induction h with
  | nil => exact .nil
  | cons r t ih => rw [List.reverse_cons, List.reverse_cons]; exact Vals.append ih (.cons r .nil)
theorem Vals.rep {xs : List V} {us : List Value} (h : Vals xs us) : ∀ k : Nat, Vals (List.replicate k xs).flatten (List.replicate k us).flatten
  | 0 => .nil
  | k + 1 => by
    rw [List.replicate_succ, List.replicate_succ, List.flatten_cons, List.flatten_cons]
    exact Vals.append h (Vals.rep h k)
theorem vk {α : Type} (l : List α) : l.eraseIdx (l.length - 1) = l.dropLast := by
  induction l with
  | nil => rfl
  | cons a r ih =>
    cases r with
    | nil => rfl
    | cons b r =>
      have e : (a :: b :: r).length - 1 = ((b :: r).length - 1) + 1 := by
        have h1 : (a :: b :: r).length = r.length + 2 := rfl
        have h2 : (b :: r).length = r.length + 1 := rfl
        omega
      rw [e, List.eraseIdx_cons_succ, ih]
      all_goals rfl
section
variable {X : Cx} {pins : List (Addr × Obj)} {σ : St} {H : Hp} {s : Shared} {l b : Addr} {xs ys zs : List V}
theorem Inv.lset {its its' : List Value} {n : Nat} {f : Array Value → Array Value} {t' : Nat} (I : Inv X pins σ H s) (hH : H l = some (.lst xs))
    (e : s.heap.get? l = some { cls := .type "list", data := .seq its.toArray n }) (hf : f its.toArray = its'.toArray) (hv : Vals ys its') (hz : ys.length ≤ sizeLine) :
    Inv X pins σ (upd H l (.lst ys)) { s with heap := s.heap.update l (Obj.mapSeq f), toks := t' } := by
  have q := PySem.IsL.update e f
  rw [hf] at q
  refine I.write (x := l) (e := l) (by rw [hH]; exact trivial) (.inl rfl) (fun b' u hb hu => (Heap.get?_update_other s.heap (Obj.mapSeq f) (Ne.symm hb)).trans hu) ⟨_, q⟩ ?_
  exact ⟨hz, its', _, hv, q⟩
theorem Inv.lnew {its : List Value} {t' : Nat} (I : Inv X pins σ H s) (hv : Vals ys its) (hz : ys.length ≤ sizeLine) :
    Inv X pins σ (upd H s.heap.objs.size (.lst ys)) { s with heap := s.heap.push { cls := .type "list", data := .seq its.toArray }, toks := t' } :=
  I.laid (fun _ _ q => Heap.get?_push_of_some _ q) (Nat.le_refl _) ⟨hz, its, 0, hv, Heap.get?_push_size _ rfl⟩
theorem Inv.fresh (I : Inv X pins σ H s) : H s.heap.objs.size = none := I.hok.fresh (Nat.le_refl _)
theorem Inv.lstM (I : Inv X pins σ H s) (hH : H l = some (.lst xs)) : xs.length ≤ sizeLine ∧ ∃ (its : List Value) (n : Nat), Vals xs its ∧ xs.length = its.length ∧ s.heap.get? l = some { cls := .type "list", data := .seq its.toArray n } := by
  obtain ⟨z, its, n, r, e⟩ := I.hok l _ hH
  exact ⟨z, its, n, r, r.length, e⟩
end
section
variable {X : Cx}
def qBg : V → List V → Hp → VK → Prop := fun x vs H Q => ∃ l xs y, x = .ref l ∧ vs = [y] ∧ H l = some (.lst xs) ∧ xs.length < sizeLine ∧ Q .non (upd H l (.lst (xs ++ [y])))
theorem xF : MtM X "list.append" qBg := by
  intro pins s σ H x vs v us Q I rx rv h
  obtain ⟨l, xs, y, rfl, rfl, hH, hz, q⟩ := h
  cases rx
  obtain ⟨u, rfl, ru⟩ := rv.one
  obtain ⟨z, its, n, r, hl, e⟩ := I.lstM hH
  refine call_meets F.slot_list_append ⟨_, e, rfl⟩ F.entry_list_append (F.args_list_append_2 _ _) (PySem.list_append l its.toArray n u (by rw [List.size_toArray]; omega)) ⟨e, ?_⟩
  refine ⟨.non, _, I.lset (its' := its ++ [u]) hH e (by simp) (r.append (.cons ru .nil)) ?_, rfl, q⟩
  rw [List.length_append, List.length_singleton]
  omega
def qDm : V → List V → Hp → VK → Prop := fun x vs H Q => ∃ l xs y, x = .ref l ∧ vs = [] ∧ H l = some (.lst xs) ∧ xs[xs.length - 1]? = some y ∧ Q y (upd H l (.lst xs.dropLast))
theorem qBu : MtM X "list.pop" qDm := by
  intro pins s σ H x vs v us Q I rx rv h
  obtain ⟨l, xs, y, rfl, rfl, hH, hy, q⟩ := h
  cases rx
  have hus := rv.zero
  subst hus
  obtain ⟨z, its, n, r, hl, e⟩ := I.lstM hH
  obtain ⟨u, hu, ru⟩ := r.get hy
  have hy' : its.toArray[its.toArray.size - 1]? = some u := by
    show its.toArray[its.length - 1]? = some u
    rw [← Array.getElem?_toList, ← hl]
    exact hu
  refine call_meets F.slot_list_pop ⟨_, e, rfl⟩ F.entry_list_pop (F.args_list_pop_1 _) (MeetsSeq.list_pop_last l its.toArray n u hy' (by rw [List.size_toArray]; omega)) ⟨e, ?_⟩
  refine ⟨y, _, I.lset (its' := its.dropLast) hH e ?_ r.dropLast ?_, ru, q⟩
  · show its.toArray.eraseIdxIfInBounds (its.toArray.size - 1) = its.dropLast.toArray
    rw [List.size_toArray, List.eraseIdxIfInBounds_toArray, vk]
  · rw [List.length_dropLast]
    omega
def qDu : R2 := fun x y H Q => ∃ l b xs zs, x = .ref l ∧ y = .ref b ∧ H l = some (.lst xs) ∧ H b = some (.lst zs) ∧ xs.length + zs.length ≤ sizeLine ∧ ∀ p, H p = none → Q (.ref p) (upd H p (.lst (xs ++ zs)))
theorem qCd : OpR X (binaryOp .Add) qDu := by
  intro pins s σ H x y v u Q I rx ry h
  obtain ⟨l, b, xs, zs, rfl, rfl, hH, hB, hz, q⟩ := h
  cases rx
  cases ry
  obtain ⟨z, its, n, r, hl, e⟩ := I.lstM hH
  obtain ⟨z2, its2, n2, r2, hl2, e2⟩ := I.lstM hB
  refine PySem.P.add_list e e2 ?_ (by rw [List.size_toArray, List.size_toArray]; omega)
  have ea : its.toArray ++ its2.toArray = (its ++ its2).toArray := by simp
  rw [ea]
  exact ⟨.ref _, _, I.lnew (t' := s.toks) (r.append r2) (by rw [List.length_append]; omega), rfl, q _ I.fresh⟩
end
section
variable {prog : Program} {w : World} {A : Around} {E : Value → Shared → Prop} {s : Shared}
end
section
variable {X : Cx}
end
end L2
namespace Att
open PySem PySem.W PySem.Calls PyProof.Rows
theorem xb {P : Params} {h : Heap} : ∀ (ns : List Int) (vs : List Value), WellAll P h vs (ns.map WData.int) → IntsAre vs ns := by
  intro ns
  induction ns with
  | nil =>
    intro vs w
    rw [List.map_nil] at w
    cases w
    exact .nil
  | cons n ns ih =>
    intro vs w
    rw [List.map_cons] at w
    cases w with
    | cons a b =>
      cases a
      exact .cons _ _ (ih _ b)
theorem vx {l : OpenLaw} {n : Nat} (hn : l.most = some n) {P : Params} {h : Heap} {args : List WData} {vals : List Value}
    (hpre : l.row.toRowW.claim.pre args = true) (hwl : WellAll P h vals args) :
    ∃ a vs ns, vals = [Value.ref a] ∧ args = [WData.list (ns.map WData.int)] ∧ h.get? a = some { cls := .type "list", data := .seq vs.toArray } ∧ IntsAre vs ns ∧ ns.length ≤ n := by
  have hsh : WShape.hasAll [] args [.list .int] = true := (pre_splitW hpre).1
  have hc : l.pre.holds [] { args := args } = true := (pre_splitW hpre).2
  obtain ⟨d, r, rfl, h1, h2⟩ := hasAllW_cons hsh
  obtain rfl := hasAllW_nil h2
  obtain ⟨xs, rfl, h3⟩ := hasW_list h1
  obtain ⟨ns, rfl⟩ := items_int h3
  have hlen : ns.length ≤ n := by
    unfold OpenLaw.pre at hc
    have h4 : (WTm.not (.lt (.lit (.int (n : Int))) (.len (.arg 0)))).holds [] { args := [.list (ns.map .int)] } = true := by
      have h4 := (holds_andW hc).1
      rw [hn] at h4
      exact h4
    have h5 := condW_of h4 (w_not (w_lt w_lit (w_len_list (w_arg rfl))))
    rw [List.length_map] at h5
    refine Nat.le_of_not_lt fun q => ?_
    have q' : (n : Int) < ((ns.length : Nat) : Int) := by omega
    first
      | (rw [decide_eq_true q'] at h5; exact absurd h5 (by decide))
      | (simp at h5; omega)
  cases hwl with
  | cons w1 w2 =>
    cases w2
    cases w1 with
    | list ho hall => exact ⟨_, _, ns, rfl, rfl, ho, xb ns _ hall, hlen⟩
theorem wF (l : OpenLaw) (args : List WData) : l.row.toRowW.claim.post args (.bool true) args = true :=
  postW_of (r := l.row.toRowW) (X := (true == true))
    (show WShape.has [] (.bool true) .bool = true by first | rfl | decide | simp [WShape.has, WShape.arms, WShape.armsAll])
    (show (WTm.eq .res (.lit (.bool true))).value [] { args := args, res := some (.bool true), after := args } = some (.bool (true == true)) from w_eq_bool (w_res rfl) w_lit) rfl
theorem attach_call {l : OpenLaw} {n : Nat} {q : Program} {loose : List Str} {XP : (Str → Option Value) → Heap → Prop} {YP : World → Heap → Prop} {d : DefRec}
    (hn : l.most = some n) (hdf : d.params.defaults = [])
    (call : ∀ (w : World) (s₀ s₁ : Shared) (mg mb : Str → Option Value) (fa : Addr) (o : Obj) (pm cd doc : Value) (a : Addr) (vs : List Value) (ns : List Int),
      Ground q loose [] XP w s₀ mg mb s₁.heap → YP w s₁.heap →
      s₁.heap.get? fa = some o → o.data = .func (docDef d.name d.params d.body d.scope pm cd doc) → s₁.heap.CodeRec cd d.name → mg d.name = some (.ref fa) →
      s₁.heap.get? a = some { cls := .type "list", data := .seq vs.toArray } → IntsAre vs ns → ns.length ≤ n → s₁.gens = #[] →
      codeAny (model l.prog w) callerA (.call (.ref fa) ⟨[.ref a], []⟩) (fun r s' => r = .ok (.ret (.bool true)) ∧ OldK s₁.heap s'.heap ∧ s'.os = s₁.os ∧ AllBare s'.gens) s₁) :
    WalkO q loose XP YP l.row.toRowW d [] (fun f vs => PySem.call f vs) := by
  intro w s₀ s₁ mg mb G Y fa o pm cd doc dV kV ho hd hcd hD hmg hg args vals as hpre hlay hrd hwl hlo
  obtain rfl : dV = .none := Dflts.none hD hdf
  obtain rfl : kV = .none := Dflts.noKw hD
  obtain ⟨a, vs, ns, rfl, rfl, hobj, hints, hlen⟩ := vx hn hpre hwl
  refine enter_call (codeAny_mono (call w s₀ s₁ mg mb fa o pm cd doc a vs ns G Y ho (fd_plain hd) hcd hmg hobj hints hlen hg) fun r s' hq => ?_)
  obtain ⟨rfl, h2, h3, h4⟩ := hq
  exact ⟨.inl ⟨.bool true, .bool true, [], rfl, fun _ => rfl, .bool true, wF l _, fun _ => ⟨List.Pairwise.nil, fun _ hm => (nomatch hm)⟩⟩, h2, h3, h4⟩
section
variable {prog : Program} {w : World} {A : Around} {E : Value → Shared → Prop} {s : Shared} {K : Frag}
def ledger (h : Heap) (L d : Addr) : List (Addr × Obj) := (List.range h.objs.size).filterMap fun a => if a = L ∨ a = d then none else (h.get? a).map fun o => (a, o)
end
end Att
namespace L2
open PySem PySem.Spec PyProof.Rows
theorem kR : ∀ {vs : List Value} {ns : List Int}, IntsAre vs ns → Vals (ns.map V.int) vs
  | _, _, .nil => .nil
  | _, _, .cons n t h => .cons ⟨t, rfl⟩ (kR h)
def qCq (H : Hp) : Prop := ∀ b, H b = none ∨ ∃ o xs, H b = some (.frz o (.lst xs))
theorem wa {P : Program} {w : World} {K : PySem.W.Frag} {mg mb : Str → Option Value} {CX : CXT} {k : Nat} {fa a : Addr} {fd : FuncData} {x : Str} {sp : Sp} {s₁ : Shared} {vs : List Value} {ns : List Int}
    (KX : K.In s₁.heap) (hns : s₁.heap.Ns mainGlobals mg) (hb : s₁.heap.Ns builtinsNs mb) (hbb : ∀ x : Str, x ≠ "__name__" → mb x = bootBuiltins x) (hlim : s₁.heap.NoLimit) (hg : s₁.gens = #[])
    (ha : s₁.heap.get? a = some { cls := .type "list", data := .seq vs.toArray }) (hi : IntsAre vs ns) (hl : ns.length ≤ sizeLine) (hr : Room k callerA)
    (F : ∀ base : Heap, K.In base → base.Ns mainGlobals mg → FnOk P w K mg base CX k fa fd [x] sp) (hbind : ∀ (s : Shared) (u : Value), BindsTo s fd ⟨[u], []⟩ [(x, u)])
    (hsp : ∀ H : Hp, qCq H → SqL K H a (ns.map V.int) → sp [.ref a] H (fun v _ => v = .bl true) fun _ _ _ => False)
    (hCX : ∀ H e s', CX [] H s₁ (fun _ _ _ => False) e s' → False) :
    codeAny (model P w) callerA (.call (.ref fa) ⟨[.ref a], []⟩) (fun r s' => r = .ok (.ret (.bool true)) ∧ OldK s₁.heap s'.heap ∧ s'.os = s₁.os ∧ AllBare s'.gens) s₁ := by
  have rv := kR hi
  have lenV := hi.length
  have core : ∀ H : Hp, qCq H → SqL K H a (ns.map V.int) → HOk P w H s₁.heap → (∀ b, H b ≠ none → b = a) → (H a ≠ none → K.lookup a = none) →
      codeAny (model P w) callerA (.call (.ref fa) ⟨[.ref a], []⟩) (fun r s' => r = .ok (.ret (.bool true)) ∧ OldK s₁.heap s'.heap ∧ s'.os = s₁.os ∧ AllBare s'.gens) s₁ := by
    intro H hO hS hok hA hK
    have base_of : ∀ {b : Addr} {o : Obj}, s₁.heap.get? b = some o → H b = none → (wZ s₁.heap H).get? b = some o := fun e n => wb e n
    have noA : ∀ {b : Addr} {o : Obj} {es : Array DictEntry} {ep : Nat}, s₁.heap.get? b = some o → o.data = .dict es ep → H b = none := fun {b o es ep} e d => by
      cases q : H b with
      | none => rfl
      | some u =>
        have e' : b = a := hA b (by rw [q]; simp)
        subst e'
        rw [ha] at e; cases e
        have d' : Data.seq vs.toArray _ = Data.dict es ep := d
        cases d'
    have nsK : ∀ {b : Addr} {m : Str → Option Value}, s₁.heap.Ns b m → (wZ s₁.heap H).Ns b m := fun {b m} ⟨o, es, ep, e, d, r⟩ => ⟨o, es, ep, base_of e (noA e d), d, r⟩
    have hKb : K.In (wZ s₁.heap H) := fun b o e => base_of (KX b o e) (by
      cases q : H b with
      | none => rfl
      | some u =>
        have e' : b = a := hA b (by rw [q]; simp)
        subst e'
        rw [hK (by rw [q]; simp)] at e; cases e)
    have hM : Mod K mg (wZ s₁.heap H) := ⟨hKb, nsK hns, ⟨mb, nsK hb, hbb⟩, let ⟨mc, h1, h2⟩ := hlim; ⟨mc, nsK h1, h2⟩⟩
    have e0 : Env0 P w K mg (wZ s₁.heap H) callerA [] s₁ H := ⟨rfl, hM, fun b o e => qA7 e, Nat.le_of_eq (wG _ _), trivial, fun b hb => absurd (show b ∈ ([] : List Addr) from hb) (by simp), hok, .of_eq hg⟩
    refine codeAny_mono ((F _ hKb (nsK hns)).run callerA [] s₁ H ⟨[.ref a], []⟩ [.ref a] [.ref a] _ _ hr e0 (hbind s₁ (.ref a)) (.cons rfl .nil) (hsp H hO hS)) fun r s' h => ?_
    cases r with
    | error e => exact (hCX H e s' h).elim
    | ok fl =>
      cases fl with
      | next => exact False.elim h
      | brk => exact False.elim h
      | cont => exact False.elim h
      | ret u =>
        obtain ⟨v, H', os, bare, un, hok', r', q⟩ := h
        have q' : v = .bl true := q
        subst q'
        obtain rfl : u = Value.bool true := r'
        refine ⟨rfl, OldK.of_keep fun b o e => ?_, os, bare⟩
        cases q : H b with
        | none => exact un.keep b o e q (by intro z; exact absurd (show b ∈ ([] : List Addr) from z) (by simp)) (by simp)
        | some u =>
          rcases hO b with z | ⟨ob, xs, z⟩
          · rw [q] at z; cases z
          · have z2 := un.frzs b ob _ z
            obtain ⟨e1, _⟩ := hok b _ z
            obtain ⟨e2, _⟩ := hok' b _ z2
            rw [e] at e1; cases e1
            exact e2
  cases hk : K.lookup a with
  | some o =>
    have e := KX a o hk
    rw [ha] at e
    cases e
    refine core (fun _ => none) (fun _ => .inl rfl) (.inr ⟨_, vs.toArray, _, hk, rfl, rfl, rfl, by rw [List.size_toArray, lenV]; exact hl, by simpa using rv⟩) (fun b u z => by have z' : (none : Option HO) = some u := z; cases z') (fun b z => absurd rfl z) fun z => absurd rfl z
  | none =>
    refine core (fun b => if b = a then some (.frz { cls := .type "list", data := .seq vs.toArray } (.lst (ns.map V.int))) else none) (fun b => ?_) (.inl (.inr ⟨{ cls := .type "list", data := .seq vs.toArray }, if_pos rfl⟩)) (fun b u z => ?_) (fun b z => ?_) fun _ => hk
    · by_cases hb : b = a
      · exact .inr ⟨_, _, if_pos hb⟩
      · exact .inl (if_neg hb)
    · by_cases hb : b = a
      · have z' := (if_pos hb).symm.trans z
        cases z'
        subst hb
        exact ⟨ha, by rw [List.length_map]; exact hl, vs, _, rv, ha⟩
      · have z' := (if_neg hb).symm.trans z
        cases z'
    · by_cases hb : b = a
      · exact hb
      · exact absurd (if_neg hb) z
end L2
namespace L2
open PySem PySem.Spec PyProof.Rows
theorem walk_of {l : PySem.W.OpenLaw} {n k : Nat} {q : Program} {loose : List Str} {XP : (Str → Option Value) → Heap → Prop} {YP : World → Heap → Prop} {d : DefRec} {K : Params → PySem.W.Frag} {CX : World → CXT} {sp : World → Sp} {x : Str}
    (hn : l.most = some n) (hn2 : n ≤ sizeLine) (hdf : d.params.defaults = []) (hr : Room k callerA)
    (hY : ∀ (w : World) (h : Heap), YP w h → (K w.params).In h)
    (F : ∀ (w : World) (mg : Str → Option Value) (fa : Addr) (h : Heap), (K w.params).In h → h.Ns mainGlobals mg → mg d.name = some (.ref fa) →
      ∃ fd : FuncData, (∀ (s : Shared) (u : Value), BindsTo s fd ⟨[u], []⟩ [(x, u)]) ∧
        ∀ base : Heap, (K w.params).In base → base.Ns mainGlobals mg → FnOk l.prog w (K w.params) mg base (CX w) k fa fd [x] (sp w))
    (hsp : ∀ (w : World) (H : Hp) (a : Addr) (ns : List Int), ns.length ≤ n → qCq H → SqL (K w.params) H a (ns.map V.int) → sp w [.ref a] H (fun v _ => v = .bl true) fun _ _ _ => False)
    (hCX : ∀ (w : World) (H : Hp) (s : Shared) (e : Value) (s' : Shared), CX w [] H s (fun _ _ _ => False) e s' → False) :
    PySem.W.WalkO q loose XP YP l.row.toRowW d [] (fun f vs => PySem.call f vs) := by
  refine Att.attach_call hn hdf fun w s₀ s₁ mg mb fa o pm cd doc a vs ns G Y ho hd hcd hmg hobj hints hlen hg => ?_
  have KX := hY w _ Y
  obtain ⟨fd, hb, hF⟩ := F w mg fa _ KX G.T.g hmg
  exact wa KX G.T.g G.T.b G.T.builtins G.T.nolimit hg hobj hints (Nat.le_trans hlen hn2) hr hF hb (fun H hO hS => hsp w H a ns hlen hO hS) fun H e s' => hCX w H s₁ e s'
end L2
namespace L2
open PySem PySem.Spec PyProof.Rows
def qV (s : Stmt) : Arguments := match s with
  | .FunctionDef _ a _ _ _ _ _ _ _ _ => a
  | _ => { posonlyargs := [], args := [], vararg := none, kwonlyargs := [], kw_defaults := [], kwarg := none, defaults := [] }
def qQ (s : Stmt) : List Stmt := match s with
  | .FunctionDef _ _ b _ _ _ _ _ _ _ => b
  | _ => []
def qF (s : Stmt) : Scope := match s with
  | .FunctionDef _ _ _ _ _ _ sc _ _ _ => sc
  | _ => { kind := .function, names := [], isGenerator := false, isCoroutine := false }
abbrev CX0 : CXT := fun _ _ _ _ _ _ => False
abbrev E0 : XK := fun _ _ _ => False
theorem qCo {X : Cx} : vA CX0 X E0 := fun _ _ _ _ _ _ _ h => h.elim
structure Fun (K : PySem.W.Frag) (x qual : Str) (st : Stmt) (f : Addr) (fd : FuncData) : Prop where
  ex : ∃ (oc : Value) (od : Option Addr) (kV doc pm : Value) (an : Option Addr) (cdv ct : Value) (osl : Array (Option Value)),
    fd = PySem.W.fnOf x qual (qV st) (qQ st) (qF st) .none kV doc pm an cdv ct ∧ K.lookup f = some ⟨oc, od, .func fd, osl⟩ ∧ PySem.W.codeIn K cdv qual = true
  kp : PySem.W.keepIn K (.ref f) = true
section
variable {P : Program} {w : World} {K : PySem.W.Frag} {mg : Str → Option Value} {base : Heap}
theorem Fun.ok {x qual : Str} {st : Stmt} {f : Addr} {fd : FuncData} {N ps : List Str} {k : Nat} {sp : Sp} (F : Fun K x qual st f fd) (S : qW N ps (qF st)) (len : ∀ vs H Q E, sp vs H Q E → vs.length = ps.length)
    (hbody : ∀ (cdv : Value) (A : Around) (outer : List Env) (s : Shared) (H : Hp) (vs : List V) (Q : VK) (E : XK), Room k (A.deeper (envOfC qual (qF st) s.heap.objs.size f cdv)) → sp vs H Q E →
      ∃ t, PSs (wW CX0 P w K mg base N qual (qF st) f cdv A outer s H E).nox (qQ st) t ∧ t { nx := fun _ H' => Q .non H', rt := Q } (zY N vs) H) : FnOk P w K mg base CX0 (k + 1) f fd ps sp := by
  obtain ⟨oc, od, kV, doc, pm, an, cdv, ct, osl, rfl, lk, hcd⟩ := F.ex
  refine qBt lk hcd S len fun A outer s H vs Q E hr hsp => ?_
  obtain ⟨t, h, q⟩ := hbody cdv A outer s H vs Q E hr hsp
  exact ⟨t, h.nox, q⟩
theorem Fun.binds {x qual : Str} {st : Stmt} {f : Addr} {fd : FuncData} {ps : List Str} (F : Fun K x qual st f fd)
    (h : ∀ (kV doc pm : Value) (an : Option Addr) (cdv ct : Value) (us : List Value), us.length = ps.length → bindArgs (PySem.W.fnOf x qual (qV st) (qQ st) (qF st) .none kV doc pm an cdv ct) ⟨us, []⟩ = pure (ps.zip us)) : Binds K fd ps [] := by
  obtain ⟨oc, od, kV, doc, pm, an, cdv, ct, osl, rfl, lk, hcd⟩ := F.ex
  exact .all (h kV doc pm an cdv ct)
theorem qr {x qual : Str} {st : Stmt} {f : Addr} {oc : Value} {od an : Option Addr} {osl : Array (Option Value)} {kV doc pm cdv ct : Value} (l : K.lookup f = some ⟨oc, od, .func (PySem.W.fnOf x qual (qV st) (qQ st) (qF st) .none kV doc pm an cdv ct), osl⟩)
    (c : PySem.W.codeIn K cdv qual = true) (k : PySem.W.keepIn K (.ref f) = true) : Fun K x qual st f (PySem.W.fnOf x qual (qV st) (qQ st) (qF st) .none kV doc pm an cdv ct) := ⟨⟨oc, od, kV, doc, pm, an, cdv, ct, osl, rfl, l, c⟩, k⟩
end
theorem jY {n : Nat} (h : n ≤ 1000) : n < sizeLine := Nat.lt_of_le_of_lt h (by decide)
section
variable {X : Cx}
theorem pv (i : Nat) {x : Str} {pos : Pos} (hN : X.N[i]? = some x := by rfl) (hv : Vis X.env.scope x := by first | exact Or.inl rfl | exact Or.inr (Or.inl rfl) | exact Or.inr (Or.inr rfl)) (hd : (x == ("__debug__" : Str)) = false := by decide)
    (hcd : (x == ("__classdict__" : Str)) = false := by decide) : PE X (.Name x pos) (qDb i) := qB1 hN hv hd hcd
end
theorem jR {A B : Prop} (h : B) : if false = true then A else B := by
  rw [if_neg Bool.false_ne_true]
  exact h
theorem x9 {A B : Prop} (h : A) : if true = true then A else B := by
  rw [if_pos rfl]
  exact h
theorem zH {c A B : Prop} [Decidable c] (h1 : c → A) (h2 : ¬ c → B) : if c then A else B := by
  by_cases h : c
  · rw [if_pos h]
    exact h1 h
  · rw [if_neg h]
    exact h2 h
def Same (H H' : Hp) : Prop := ∀ b o, H b = some o → H' b = some o
theorem Same.refl (H : Hp) : Same H H := fun _ _ h => h
theorem Same.trans {H H1 H2 : Hp} (a : Same H H1) (b : Same H1 H2) : Same H H2 := fun c o h => b c o (a c o h)
theorem Same.free {H H' : Hp} (e : Same H H') {l : Addr} (h : H' l = Option.none) : H l = Option.none := by
  cases q : H l with
  | none => rfl
  | some o =>
    rw [e l o q] at h
    cases h
theorem Same.seq {K : PySem.W.Frag} {H H' : Hp} {a : Addr} {xs : List V} (e : Same H H') (h : SqL K H a xs) : SqL K H' a xs := by
  rcases h with (h | ⟨o, h⟩) | h
  · exact .inl (.inl (e _ _ h))
  · exact .inl (.inr ⟨o, e _ _ h⟩)
  · exact .inr h
end L2
namespace L2
open PySem PySem.Spec PyProof.Rows
section
variable {κ : Type} [DecidableEq κ]
def vX (kvs : List (κ × V)) (k : κ) : Option V := (kvs.find? fun kv => decide (kv.1 = k)).map (·.2)
def qCm (kvs : List (κ × V)) (k : κ) (v : V) : List (κ × V) :=
  if (kvs.any fun kv => decide (kv.1 = k)) = true then kvs.map (fun kv => if kv.1 = k then (kv.1, v) else kv) else kvs ++ [(k, v)]
def qB2 (kvs : List (κ × V)) (k : κ) : List (κ × V) := kvs.filter fun kv => decide (kv.1 ≠ k)
theorem vL {p : κ × V} {r : List (κ × V)} {k : κ} (e : p.1 = k) : vX (p :: r) k = some p.2 := by simp [vX, List.find?_cons, e]
theorem vK {p : κ × V} {r : List (κ × V)} {k : κ} (e : ¬ p.1 = k) : vX (p :: r) k = vX r k := by simp [vX, List.find?_cons, e]
theorem RelO.getD {o : Option V} {u : Option Value} {d : V} {d' : Value} (r : RelO o u) (rd : RelV d d') : RelV (o.getD d) (u.getD d') := by
  cases o with
  | none => cases u with
    | none => exact rd
    | some _ => exact (show False from r).elim
  | some _ => cases u with
    | none => exact (show False from r).elim
    | some _ => exact r
theorem KV.val {kvs : List (κ × V)} {vs : List (κ × Value)} (r : KV kvs vs) (k : κ) : RelO (vX kvs k) (valueAt vs k) := by
  unfold KV at r
  induction r with
  | nil => exact True.intro
  | @cons p q ps qs h t ih =>
    obtain ⟨h1, h2⟩ := h
    by_cases e : p.1 = k
    · have e' : q.1 = k := h1.symm.trans e
      have b : valueAt (q :: qs) k = some q.2 := by simp [valueAt, List.find?_cons, e']
      rw [vL e, b]; exact h2
    · have e' : ¬ q.1 = k := fun z => e (h1.trans z)
      have b : valueAt (q :: qs) k = valueAt qs k := by simp [valueAt, List.find?_cons, e']
      rw [vK e, b]; exact ih
theorem KV.any {kvs : List (κ × V)} {vs : List (κ × Value)} (r : KV kvs vs) (k : κ) : (kvs.any fun kv => decide (kv.1 = k)) = vs.any fun kv => decide (kv.1 = k) := by
  unfold KV at r
  induction r with
  | nil => rfl
  | cons h t ih => rw [List.any_cons, List.any_cons, ih, h.1]
theorem KV.drop {kvs : List (κ × V)} {vs : List (κ × Value)} (r : KV kvs vs) (k : κ) : KV (qB2 kvs k) (without vs k) := by
  unfold KV at r ⊢
  unfold qB2 without
  induction r with
  | nil => exact .nil
  | @cons p q ps qs h t ih =>
    obtain ⟨h1, h2⟩ := h
    rw [List.filter_cons, List.filter_cons]
    by_cases e : p.1 = k
    · have a : ¬ decide (p.1 ≠ k) = true := by simp [e]
      have b : ¬ decide (q.1 ≠ k) = true := by simp [h1.symm.trans e]
      rw [if_neg a, if_neg b]; exact ih
    · have e' : ¬ q.1 = k := fun z => e (h1.trans z)
      have a : decide (p.1 ≠ k) = true := by simp [e]
      have b : decide (q.1 ≠ k) = true := by simp [e']
      rw [if_pos a, if_pos b]; exact .cons ⟨h1, h2⟩ ih
theorem KV.keys {kvs : List (κ × V)} {vs : List (κ × Value)} (r : KV kvs vs) : kvs.map (·.1) = vs.map (·.1) := by
  unfold KV at r
  induction r with
  | nil => rfl
  | cons h t ih => rw [List.map_cons, List.map_cons, ih, h.1]
theorem KV.length {kvs : List (κ × V)} {vs : List (κ × Value)} (r : KV kvs vs) : kvs.length = vs.length := Paired.length r
end
abbrev KT (H : Hp) : List (List Key × V) → List (List Key × Addr × Value) → Prop := Paired fun p q => p.1 = q.1 ∧ H q.2.1 = some (.tup (p.1.map kV)) ∧ RelV p.2 q.2.2
theorem KT.val {H : Hp} {kvs : List (List Key × V)} {xs : List (List Key × Addr × Value)} (r : KT H kvs xs) (k : List Key) : RelO (vX kvs k) ((atKey xs k).map (·.2)) := by
  induction r with
  | nil => exact True.intro
  | @cons p q ps qs h t ih =>
    obtain ⟨h1, _, h2⟩ := h
    by_cases e : p.1 = k
    · have e' : q.1 = k := h1.symm.trans e
      have b : atKey (q :: qs) k = some q.2 := by simp [atKey, List.find?_cons, e']
      rw [vL e, b]; exact h2
    · have e' : ¬ q.1 = k := fun z => e (h1.trans z)
      have b : atKey (q :: qs) k = atKey qs k := by simp [atKey, List.find?_cons, e']
      rw [vK e, b]; exact ih
theorem KT.keeps {H H' : Hp} {kvs : List (List Key × V)} {xs : List (List Key × Addr × Value)} (r : KT H kvs xs) (ht : ∀ b ys, H b = some (.tup ys) → H' b = some (.tup ys)) : KT H' kvs xs :=
  Paired.mapP r fun _ _ z => ⟨z.1, ht _ _ z.2.1, z.2.2⟩
section
variable {P : Program} {w : World} {H : Hp} {h : Heap} {a : Addr}
theorem qCu {u : HO} (ok : HOk P w H h) (e : Rd H a u) : ObjOk P w H h a u := e.ok ok
theorem qBl {kvs : List (Key × V)} (ok : HOk P w H h) (e : Rd H a (.dK kvs)) : kvs.length ≤ sizeLine ∧ (a == sysModules) = false ∧ ∃ vs, KV kvs vs ∧ h.DictOf (kf P w) a vs :=
  show ObjOk P w H h a (.dK kvs) from qCu ok e
end
def DGet (H : Hp) (a : Addr) (y : V) (r : Option V) : Prop :=
  (∃ kvs k, Rd H a (.dK kvs) ∧ y = kV k ∧ r = vX kvs k) ∨ ∃ kvs k b, Rd H a (.dT kvs) ∧ y = .ref b ∧ H b = some (.tup (k.map kV)) ∧ r = vX kvs k
def DPut (H : Hp) (a : Addr) (y v : V) (H' : Hp) : Prop :=
  (∃ kvs k, H a = some (.dK kvs) ∧ y = kV k ∧ kvs.length < sizeLine ∧ H' = upd H a (.dK (qCm kvs k v))) ∨
  ∃ kvs k b, H a = some (.dT kvs) ∧ y = .ref b ∧ H b = some (.tup (k.map kV)) ∧ kvs.length < sizeLine ∧ H' = upd H a (.dT (qCm kvs k v))
theorem DGet.k {H : Hp} {a : Addr} {kvs : List (Key × V)} {k : Key} (e : H a = some (.dK kvs)) : DGet H a (kV k) (vX kvs k) := .inl ⟨kvs, k, .inl e, rfl, rfl⟩
theorem DGet.t {H : Hp} {a b : Addr} {kvs : List (List Key × V)} {k : List Key} (e : H a = some (.dT kvs)) (eb : H b = some (.tup (k.map kV))) : DGet H a (.ref b) (vX kvs k) := .inr ⟨kvs, k, b, .inl e, rfl, eb, rfl⟩
theorem DPut.k {H : Hp} {a : Addr} {kvs : List (Key × V)} {k : Key} {v : V} (e : H a = some (.dK kvs)) (hl : kvs.length < sizeLine) : DPut H a (kV k) v (upd H a (.dK (qCm kvs k v))) := .inl ⟨kvs, k, e, rfl, hl, rfl⟩
theorem DPut.t {H : Hp} {a b : Addr} {kvs : List (List Key × V)} {k : List Key} {v : V} (e : H a = some (.dT kvs)) (eb : H b = some (.tup (k.map kV))) (hl : kvs.length < sizeLine) :
    DPut H a (.ref b) v (upd H a (.dT (qCm kvs k v))) := .inr ⟨kvs, k, b, e, rfl, eb, hl, rfl⟩
section
variable {X : Cx} {pins : List (Addr × Obj)} {σ : St} {H : Hp} {s : Shared} {a : Addr} {y v : V} {u r : Value} {o : Option V} {A : Around} {E : Value → Shared → Prop}
end
section
variable {X : Cx} {pins : List (Addr × Obj)} {σ : St} {H : Hp} {s : Shared} {a : Addr} {kvs : List (Key × V)} {k : Key} {u : Value} {A : Around} {E : Value → Shared → Prop}
end
section
variable {X : Cx} {o i e value : Expr} {pos pos' tpos : Pos} {td ty tv : TE}
end
section
variable {X : Cx} {pos : Pos}
end
structure M1 (X : Cx) (o : Expr) (m : Str) (apos : Pos) (e : Expr) (cpos : Pos) : Prop where
  base : attributeBase o m X.env (eval o X.env) = eval o X.env
  few : ((backTo cpos (starEach [e] X.env)).all (fun x => !x.1) && (backToKw cpos (keywordEach [] X.env)).all (fun x => x.1.isSome)
    && decide (([e] : List Expr).length + ([] : List Keyword).length + (if ([] : List Keyword).isEmpty then 0 else 1) < 30)) = true
  line : (apos.endLine == cpos.line) = true
  trees : backTo cpos (starEach [e] X.env) = [(false, eval e X.env)]
structure M2 (X : Cx) (o : Expr) (m : Str) (apos : Pos) (e f : Expr) (cpos : Pos) : Prop where
  base : attributeBase o m X.env (eval o X.env) = eval o X.env
  few : ((backTo cpos (starEach [e, f] X.env)).all (fun x => !x.1) && (backToKw cpos (keywordEach [] X.env)).all (fun x => x.1.isSome)
    && decide (([e, f] : List Expr).length + ([] : List Keyword).length + (if ([] : List Keyword).isEmpty then 0 else 1) < 30)) = true
  line : (apos.endLine == cpos.line) = true
  trees : backTo cpos (starEach [e, f] X.env) = [(false, eval e X.env), (false, eval f X.env)]
section
variable {X : Cx} {pins : List (Addr × Obj)} {σ : St} {H : Hp} {s : Shared} {a : Addr} {y d : V} {u r : Value} {o : Option V} {A : Around} {E : Value → Shared → Prop}
end
section
variable {X : Cx} {o e f : Expr} {apos cpos : Pos} {td ty tx : TE}
end
section
variable {X : Cx} {pins : List (Addr × Obj)} {σ : St} {H : Hp} {s : Shared} {a : Addr} {kvs : List (Key × V)} {A : Around} {E : Value → Shared → Prop}
end
section
variable {X : Cx} {pins : List (Addr × Obj)} {σ : St} {H : Hp} {s : Shared} {a : Addr} {y : V} {u : Value} {A : Around} {E : Value → Shared → Prop}
end
end L2
namespace Att
open PySem PySem.W PySem.Calls PyProof.Rows
section
variable {prog : Program} {w : World} {A : Around} {E : Value → Shared → Prop} {s : Shared} {K : Frag}
end
end Att
namespace L2
open PySem PySem.Spec PyProof.Rows
end L2
namespace L2
open PySem PySem.Spec PyProof.Rows
end L2
namespace L2
open PySem PySem.Spec PyProof.Rows
section
variable {P : Program} {w : World} {K : PySem.W.Frag} {mg : Str → Option Value} {base : Heap}
end
section
variable {X : Cx}
end
section
variable {κ : Type} [DecidableEq κ]
end
end L2
namespace Mt
theorem qBi (a b : Int) : a.fmod b = a - b * a.fdiv b := by
  have := Int.fmod_add_mul_fdiv a b
  omega
theorem jx (a b : Int) : Int.gcd b (a.fmod b) = Int.gcd a b := by
  apply Nat.dvd_antisymm
  · refine Int.dvd_gcd ?_ (Int.gcd_dvd_left b (a.fmod b))
    have h1 : ((Int.gcd b (a.fmod b) : Nat) : Int) ∣ b := Int.gcd_dvd_left ..
    have h2 : ((Int.gcd b (a.fmod b) : Nat) : Int) ∣ a.fmod b := Int.gcd_dvd_right ..
    have h3 := Int.dvd_add h2 (Int.dvd_trans h1 (Int.dvd_mul_right b (a.fdiv b)))
    have e : a.fmod b + b * a.fdiv b = a := Int.fmod_add_mul_fdiv a b
    rwa [e] at h3
  · refine Int.dvd_gcd (Int.gcd_dvd_right ..) ?_
    rw [qBi]
    exact Int.dvd_sub (Int.gcd_dvd_left ..) (Int.dvd_trans (Int.gcd_dvd_right ..) (Int.dvd_mul_right ..))
theorem wH (a b : Int) (h : b ≠ 0) : (a.fmod b).natAbs < b.natAbs := by
  rcases Int.lt_or_gt_of_ne h with h | h
  · have h1 := Int.fmod_lt_of_pos (-a) (show 0 < -b by omega)
    have h2 := Int.fmod_nonneg_of_pos (-a) (show 0 < -b by omega)
    rw [Int.neg_fmod_neg] at h1 h2
    omega
  · have h1 := Int.fmod_lt_of_pos a h
    have h2 := Int.fmod_nonneg_of_pos a h
    omega
def sg (t b : Int) : Int := if b < 0 then -((Int.gcd t b : Nat) : Int) else ((Int.gcd t b : Nat) : Int)
def xM (t b : Int) : Int := t.fdiv (sg t b)
def jt (t b : Int) : Int := b.fdiv (sg t b)
theorem xz {t b : Int} (h : b ≠ 0) : 0 < Int.gcd t b := by
  rcases Nat.eq_zero_or_pos (Int.gcd t b) with z | z
  · rw [Int.gcd_eq_zero_iff] at z
    exact absurd z.2 h
  · exact z
theorem qC9 {t b : Int} (h : b ≠ 0) : sg t b ≠ 0 := by
  have := xz (t := t) h
  unfold sg; split <;> omega
theorem wk (t b : Int) : sg t b ∣ t := by
  unfold sg; split
  · exact Int.neg_dvd.mpr (Int.gcd_dvd_left ..)
  · exact Int.gcd_dvd_left ..
theorem wt (t b : Int) : sg t b ∣ b := by
  unfold sg; split
  · exact Int.neg_dvd.mpr (Int.gcd_dvd_right ..)
  · exact Int.gcd_dvd_right ..
theorem vI (t b : Int) : (sg t b).natAbs = Int.gcd t b := by
  unfold sg; split <;> omega
theorem qA2 (t b : Int) : xM t b * sg t b = t := Int.fdiv_mul_cancel (wk t b)
theorem wj (t b : Int) : jt t b * sg t b = b := Int.fdiv_mul_cancel (wt t b)
theorem jd {t b : Int} (h : b ≠ 0) : 0 < jt t b := by
  have e := wj t b
  have g := xz (t := t) h
  by_cases hb : b < 0
  · have s : sg t b = -((Int.gcd t b : Nat) : Int) := by unfold sg; rw [if_pos hb]
    rw [s] at e
    rcases Int.lt_trichotomy (jt t b) 0 with z | z | z
    · have := Int.mul_pos_of_neg_of_neg z (show -((Int.gcd t b : Nat) : Int) < 0 by omega)
      omega
    · rw [z] at e; omega
    · exact z
  · have s : sg t b = ((Int.gcd t b : Nat) : Int) := by unfold sg; rw [if_neg hb]
    rw [s] at e
    rcases Int.lt_trichotomy (jt t b) 0 with z | z | z
    · have := Int.mul_neg_of_neg_of_pos z (show 0 < ((Int.gcd t b : Nat) : Int) by omega)
      omega
    · rw [z] at e; omega
    · exact z
theorem qBh {t b : Int} (h : b ≠ 0) : Int.gcd (xM t b) (jt t b) = 1 := by
  have e := Int.gcd_mul_right (xM t b) (sg t b) (jt t b)
  rw [qA2, wj, vI] at e
  have g := xz (t := t) h
  have e' : 1 * Int.gcd t b = (xM t b).gcd (jt t b) * Int.gcd t b := by omega
  exact (Nat.eq_of_mul_eq_mul_right g e').symm
theorem xv (t b : Int) : xM t b * b = t * jt t b := by
  have e1 := qA2 t b
  have e2 := wj t b
  calc xM t b * b = xM t b * (jt t b * sg t b) := by rw [e2]
    _ = (xM t b * sg t b) * jt t b := by rw [Int.mul_comm (jt t b), Int.mul_assoc]
    _ = t * jt t b := by rw [e1]
theorem jz {t b : Int} (h : b ≠ 0) : (xM t b).natAbs ≤ t.natAbs := by
  have e := congrArg Int.natAbs (qA2 t b)
  rw [Int.natAbs_mul, vI] at e
  have g := xz (t := t) h
  rw [← e]
  exact Nat.le_mul_of_pos_right _ g
theorem jo {t b : Int} (h : b ≠ 0) : (jt t b).natAbs ≤ b.natAbs := by
  have e := congrArg Int.natAbs (wj t b)
  rw [Int.natAbs_mul, vI] at e
  have g := xz (t := t) h
  have := Nat.le_mul_of_pos_right (jt t b).natAbs g
  omega
end Mt
namespace Mt
end Mt
namespace Mt
def plP (p q r s k : Int) : Int := xM (p * s + k * r * q) (q * s)
def plQ (p q r s k : Int) : Int := jt (p * s + k * r * q) (q * s)
theorem qB5 {p q r s k : Int} (hq : 0 < q) (hs : 0 < s) : 0 < plQ p q r s k := jd (Int.ne_of_gt (Int.mul_pos hq hs))
theorem qBf {p q r s k : Int} (hq : 0 < q) (hs : 0 < s) : (plP p q r s k).natAbs ≤ (p * s + k * r * q).natAbs := jz (Int.ne_of_gt (Int.mul_pos hq hs))
theorem qA1 {p q r s k : Int} (hq : 0 < q) (hs : 0 < s) : (plQ p q r s k).natAbs ≤ (q * s).natAbs := jo (Int.ne_of_gt (Int.mul_pos hq hs))
end Mt
namespace Mt
end Mt
set_option maxHeartbeats 4000000
namespace L3
open PySem PySem.Spec PyProof.Rows L2
def CMulB (i j : Int) : Prop := CMul i j ∨ (i.natAbs < 2 ^ 60000 ∧ j.natAbs < 2 ^ 60000)
theorem xB {i : Int} (h : i.natAbs < 2 ^ 60000) : Builtin.Int.intBits i ≤ 2 ^ 20 := by
  unfold Builtin.Int.intBits
  split
  · exact Nat.zero_le _
  · rename_i h0
    have hz : i.natAbs ≠ 0 := by
      intro z
      apply h0
      have : i = 0 := by omega
      rw [this]; rfl
    have := (Nat.log2_lt hz).mpr h
    have e : (2 : Nat) ^ 20 = 1048576 := by decide
    omega
theorem CMulB.ok {i j : Int} (h : CMulB i j) : IntMulOk i j := by
  rcases h with h | ⟨h1, h2⟩
  · exact h.ok
  · exact IntMulOk.of_bits (xB h1) (xB h2)
def CDivB (_ j : Int) : Prop := j ≠ 0 ∧ j.natAbs < 2 ^ 8000
theorem CDivB.ok {i j : Int} (h : CDivB i j) : Builtin.divisionGoesByPylong i j = false := by
  refine PyProof.noPylong_of_log2 ?_
  have hz : j.natAbs ≠ 0 := by have := h.1; omega
  have := (Nat.log2_lt hz).mpr h.2
  omega
section
variable {X : Cx}
theorem qp : OpR X (binaryOp .Mult) (rI CMulB fun i j => .int (i * j)) := opI fun _ _ _ _ _ _ _ hc q => mul_int q hc.ok
theorem qd : OpR X (binaryOp .FloorDiv) (rI CDivB fun i j => .int (i.fdiv j)) := opI fun _ _ _ _ _ _ _ hc q => floordiv_int hc.1 q (.inl hc.ok)
theorem qg : CallR X (.builtin "isinstance") (fun xs H Q => ∃ x c t b, xs = [x, c] ∧ kQ X.K H x t ∧
    (∃ n, c = .ty n ∧ PySem.W.kitOne X.K t (.type n) = some b ∨ ∃ a, c = .ref a ∧ PySem.W.kitOne X.K t (.ref a) = some b) ∧ Q (.bl b) H) := by
  intro pins s σ H xs us Q I r h
  obtain ⟨x, c, t, b, rfl, ty, hk, q⟩ := h
  obtain ⟨u, u', rfl, rx, rc⟩ := qBd r
  obtain ⟨n, ⟨rfl, e⟩ | ⟨a, rfl, e⟩⟩ := hk
  · cases rc
    exact kN I rx ty e fun tk => ⟨.bl b, H, I.tok _, rfl, q⟩
  · cases rc
    exact kN I rx ty e fun tk => ⟨.bl b, H, I.tok _, rfl, q⟩
def vw (xs ys : List V) : Bool := (List.range (min xs.length ys.length)).all (fun j => eqV (xs.getD j .non) (ys.getD j .non)) && xs.length == ys.length
theorem zI {A : Around} {s : Shared} {xs ys : List V} {us ws : List Value} (r1 : Vals xs us) (r2 : Vals ys ws) (f1 : xs.all jv = true) (f2 : ys.all jv = true) :
    ∀ j (h1 : j < us.toArray.size) (h2 : j < ws.toArray.size), SeqAt.EqAt A s us.toArray[j] ws.toArray[j] (eqV (xs.getD j .non) (ys.getD j .non)) := by
  intro j h1 h2
  have l1 := r1.length
  have l2 := r2.length
  rw [List.size_toArray] at h1 h2
  have g1 : xs[j]? = some xs[j] := List.getElem?_eq_getElem (by omega)
  have g2 : ys[j]? = some ys[j] := List.getElem?_eq_getElem (by omega)
  obtain ⟨u, e1, q1⟩ := r1.get g1
  obtain ⟨w, e2, q2⟩ := r2.get g2
  have d1 : xs.getD j .non = xs[j] := by rw [List.getD_eq_getElem?_getD, g1]; rfl
  have d2 : ys.getD j .non = ys[j] := by rw [List.getD_eq_getElem?_getD, g2]; rfl
  have c1 : us.toArray[j] = u := by
    have := (List.getElem?_eq_some_iff.mp e1).2
    simpa using this
  have c2 : ws.toArray[j] = w := by
    have := (List.getElem?_eq_some_iff.mp e2).2
    simpa using this
  rw [d1, d2, c1, c2]
  exact vG q1 q2 (List.all_eq_true.mp f1 _ (List.getElem_mem _)) (List.all_eq_true.mp f2 _ (List.getElem_mem _))
def qDd (K : PySem.W.Frag) (neg : Bool) : R2 := fun x y H Q => ∃ p q xs ys, x = .ref p ∧ y = .ref q ∧ SqT K H p xs ∧ SqT K H q ys ∧ xs.all jv = true ∧ ys.all jv = true ∧ Q (.bl (if neg then !vw xs ys else vw xs ys)) H
theorem qB4 (hu : X.A.units < cLine) : OpR X (compareOp .Eq) (qDd X.K false) := by
  intro pins s σ H x y v u Q I rx ry h
  obtain ⟨p, q, xs, ys, rfl, rfl, h1, h2, f1, f2, k⟩ := h
  cases rx; cases ry
  obtain ⟨us, r1, t1, _⟩ := I.tuple h1
  obtain ⟨ws, r2, t2, _⟩ := I.tuple h2
  have l1 : us.toArray.size = xs.length := by rw [List.size_toArray]; exact r1.length.symm
  have l2 : ws.toArray.size = ys.length := by rw [List.size_toArray]; exact r2.length.symm
  refine SeqAt.eq_tupleAt t1 t2 hu (zI r1 r2 f1 f2) ?_
  rw [l1, l2]
  exact ⟨.bl (vw xs ys), H, I, rfl, k⟩
end
end L3
set_option maxHeartbeats 4000000
namespace L3
open PySem PySem.Spec PyProof.Rows L2
def qm (X : Cx) (scope : Scope) (cl : List (Str × Addr)) (C : Addr) (N : List Str) (s : Shared) (H : Hp) (fp : List Addr) : Cx :=
  { X with N := N, s₀ := s, H₀ := H, env := compEnvC scope cl C X.env, outer := X.stack, stack := X.stack, ex := fp, fn := fun _ => false, pn := [] }
def xR (js : List Nat) (σ : L2.St) : L2.St := js.map fun j => (σ[j]?).join
def wA (js : List Nat) (te : TE) (σ : L2.St) (Q : VK) (J : It) (H1 : Hp) : Prop := ∃ W : Nat → Nat → List V → Hp → Prop, (∃ m, W 0 m [] H1) ∧ ∀ i m acc H2, W i m acc H2 →
  acc.length < sizeLine ∧ ((J.stop i H2 ∧ ∀ D, H2 D = none → Q (.ref D) (upd H2 D (.lst acc))) ∨
    (J.go i H2 ∧ ∀ x H3, J.yld i H2 x H3 → te (some x :: xR js σ) H3 fun v H4 => ∃ m', m' < m ∧ W (i + 1) m' (acc ++ [v]) H4))
def qBp (js : List Nat) (wi : TI) (te : TE) : TE := fun σ H Q => wi σ H (wA js te σ Q)
theorem wN {X : Cx} {elt iter : Expr} {x : Str} {px : Pos} {scope : Scope} {cl : List (Str × Addr)} {pos : Pos} {wi : TI} {te : TE} (ys : List Str) (js : List Nat)
    (hcm : X.calm = true) (hi : PI X (.Name x px) iter wi) (he : ∀ C s H fp, PE (qm X scope cl C (x :: ys) s H fp).nox elt te)
    (hclos : closureFor scope X.env = pure cl := by rfl)
    (hcl : cl.map (fun p => X.env.cells.lookup p.1) = cl.map (fun p => some p.2) := by rfl)
    (hcell : (scope.names.all fun p => p.2 != .cell) = true := by rfl) (hkind : scope.kind = .function := by rfl)
    (hnames : (scope.names.all fun p => p.2 != .local || scope.names.lookup p.1 == some .local) = true := by rfl)
    (hx : scope.names.lookup x = some .local := by rfl)
    (hhas : ((relabel scope X.env).names.all fun p => (p.2 != .cell && p.2 != .free) || (cl.lookup p.1).isSome) = true := by rfl)
    (hnd : (x :: ys).Nodup := by decide)
    (hjs : js.map (fun j => X.N[j]?) = ys.map some := by rfl)
    (hys : (ys.all fun y => ((relabel scope X.env).names.lookup y == some .cell || (relabel scope X.env).names.lookup y == some .free) && (X.env.scope.names.lookup y == some .cell || X.env.scope.names.lookup y == some .free)) = true := by rfl)
    (hs : ∀ x, foldedSetIterable iter X.env x = pure x := by intro _; rfl)
    {pins : List (Addr × Obj)} {s : Shared} {σ : L2.St} {H : Hp} (R : V → Hp → Prop) (use : Option (Value → Sem Unit)) (Q : Value → Shared → Prop) (I : Inv X pins σ H s) (h : qBp js wi te σ H R)
    (fin : ∀ (v : V) (u : Value) (H' : Hp) (s' : Shared) (C : Addr), Inv X pins σ H' s' → RelV v u → R v H' → (∃ m, s'.heap.Ns C m) → H' C = none → C ≠ X.env.locals → X.s₀.heap.objs.size ≤ C → (∀ y c, X.env.cells.lookup y = some c → c ≠ C) → (∀ p ∈ X.pn ++ pins, p.1 ≠ C) →
      compPost (model X.prog X.w) X.A X.xe use Q u C (.ok .next) s') :
    wpAny (model X.prog X.w) X.A (comprehension (.ListComp elt [⟨.Name x px, iter, [], 0⟩] scope pos) scope X.env (firstIterPos [⟨.Name x px, iter, [], 0⟩] pos) (newList []) false (eval iter X.env) use) Q X.xe s := by
  have hcell' : ∀ y ∈ scope.names, y.2 ≠ .cell := fun y hy => by
    have := List.all_eq_true.mp hcell y hy
    simpa using this
  have hnm : ∀ y ∈ scope.names, y.2 = .local → scope.names.lookup y.1 = some .local := fun y hy e => by
    have := List.all_eq_true.mp hnames y hy
    rw [e] at this
    simpa using this
  have clX : ∀ y c, cl.lookup y = some c → X.env.cells.lookup y = some c := fun y c e => by
    have hm := PySem.mem_of_lookup e
    obtain ⟨k, hk, e2⟩ := List.mem_iff_getElem.mp hm
    have := congrArg (fun l => l[k]?) hcl
    simp only [List.getElem?_map, List.getElem?_eq_getElem hk, Option.map_some, e2] at this
    exact Option.some.inj this
  have has : ∀ y, ((relabel scope X.env).names.lookup y = some .cell ∨ (relabel scope X.env).names.lookup y = some .free) → ∃ c, cl.lookup y = some c := fun y hy => by
    have key : ∀ k : NameKind, (k = .cell ∨ k = .free) → (relabel scope X.env).names.lookup y = some k → ∃ c, cl.lookup y = some c := fun k hk e => by
      have := List.all_eq_true.mp hhas _ (PySem.mem_of_lookup e)
      rcases hk with rfl | rfl <;> exact Option.isSome_iff_exists.mp (by simpa using this)
    rcases hy with e | e
    · exact key _ (.inl rfl) e
    · exact key _ (.inr rfl) e
  refine wpAny_comprehension_free (use := use) rfl hs hclos hkind hnm (thn (hi pins s σ H _ I h) fun v s1 h1 => thn h1 fun itv s2 h2 => ?_)
  obtain ⟨it, fp, tn, J, H2, e, I2, T, st2, f2, W, ⟨m0, w0⟩, turn⟩ := h2
  subst e
  refine wpAny_newObj_type (wpAny_newFunctionEnv hcell' (by intro y hy; simp at hy) (fun h₁ hns hsb => ?_) hkind)
  dsimp only at hns hsb ⊢
  generalize hG : s2.heap.push { cls := .type "list", dict := none, data := .seq ([] : List Value).toArray } = G at hns hsb ⊢
  have szG : G.objs.size = s2.heap.objs.size + 1 := by rw [← hG, Heap.size_push]
  have inG : ∀ b o, s2.heap.get? b = some o → G.get? b = some o := fun b o e => hG ▸ Heap.get?_push_of_some _ e
  have ltC : ∀ b o, s2.heap.get? b = some o → b ≠ G.objs.size := fun b o e => by rw [szG]; exact Nat.ne_of_lt (Nat.lt_succ_of_lt (Heap.lt_size e))
  have ltD : ∀ b o, s2.heap.get? b = some o → b ≠ s2.heap.objs.size := fun b o e => Nat.ne_of_lt (Heap.lt_size e)
  have DC : s2.heap.objs.size ≠ G.objs.size := by rw [szG]; omega
  have old : ∀ b o, s2.heap.get? b = some o → h₁.get? b = some o := fun b o e => hsb.extBut b o (ltC b o e) (Heap.get?_push_of_some _ (inG b o e))
  have hacc : h₁.PlainList s2.heap.objs.size #[] := ⟨_, hsb.extBut _ _ DC (Heap.get?_push_of_some _ (hG ▸ Heap.get?_push_size _ rfl))⟩
  have fpO : ∀ b ∈ fp, ∃ o, s2.heap.get? b = some o := fun b hb => let ⟨o, e, _⟩ := T.obj 0 _ st2 b hb; ⟨o, e⟩
  have stkO : ∀ b ∈ frs X.stack, ∃ o, s2.heap.get? b = some o := fun b hb => by
    obtain ⟨_, o, ho, _⟩ := I2.stack.mem hb
    exact ⟨o, ho⟩
  have freshH : ∀ a, s2.heap.objs.size ≤ a → H2 a = none := fun a ha => I2.hok.fresh ha
  have stkFp : ∀ b ∈ fp, b ∉ frs X.stack := fun b hb z => by
    rcases List.mem_cons.mp (I2.stkSub b z) with q | q
    · exact (f2 b hb).2.1 q
    · exact (f2 b hb).2.2.1 q
  have okX : (qm X scope cl G.objs.size (x :: ys) s2 H2 fp).Ok := {
    mod := I2.ok.mod
    kind := hkind
    glob := I2.ok.glob
    blt := I2.ok.blt
    above := by show s2.heap.objs.size ≤ G.objs.size; rw [szG]; omega
    inj := fun y z c e1 e2 => I2.ok.inj y z c (clX y c e1) (clX z c e2)
    has := fun y hy => has y hy
    cab := fun y c e _ => absurd (show false = true from e) Bool.false_ne_true
    hd := I2.ok.hd
    frames := I2.ok.frames
    stk := .inl rfl
    exf := fun b hb => by
      obtain ⟨o, e⟩ := fpO b hb
      exact ⟨ltC b o e, fun y c e1 => (f2 b hb).2.2.2.2.1 y c (clX y c e1)⟩
    bs := I2.bs
    bsz := Nat.le_trans I2.ok.bsz I2.sz
    noex := fun b o e hb => by
      rcases (f2 b hb).2.2.2.1 with q | q
      · exact I2.ok.noex b o e q
      · exact Nat.lt_irrefl _ (Nat.lt_of_lt_of_le (Nat.lt_of_lt_of_le (Heap.lt_size e) I2.ok.bsz) q)
    exfs := stkFp
    funs := I2.stack
    frf := I2.stkFree }
  have lenY : js.length = ys.length := by have := congrArg List.length hjs; simpa using this
  have I0 : Inv (qm X scope cl G.objs.size (x :: ys) s2 H2 fp) [] (none :: xR js σ) H2 { s2 with heap := h₁, toks := s2.toks + ([] : List (Str × Value)).length } := by
    refine ⟨okX, rfl, I2.bare, Un.kept old, ⟨_, hns, fun k y v e1 e2 e3 => ?_⟩, fun y c e => ?_, freshH _ (by show s2.heap.objs.size ≤ G.objs.size; rw [szG]; omega), fun y c e => I2.freeC y c (clX y c e), fun p hp => absurd (show p ∈ ([] : List (Addr × Obj)) from hp) (by simp), I2.hok.kept old, ?_⟩
    · cases k with
      | zero => cases e2
      | succ k =>
        have e1' : ys[k]? = some y := e1
        have e2' : (xR js σ)[k]? = some (some v) := e2
        unfold xR at e2'
        rw [List.getElem?_map] at e2'
        cases ej : js[k]? with
        | none => rw [ej] at e2'; cases e2'
        | some j =>
          rw [ej] at e2'
          have e4 : (σ[j]?).join = some v := Option.some.inj e2'
          have e5 : σ[j]? = some (some v) := by
            cases q : σ[j]? with
            | none => rw [q] at e4; cases e4
            | some o => rw [q] at e4; exact congrArg some e4
          have e6 : X.N[j]? = some y := by
            have := congrArg (fun l => l[k]?) hjs
            simp only [List.getElem?_map, ej, e1', Option.map_some] at this
            exact Option.some.inj this
          have hy := List.all_eq_true.mp hys y (List.mem_of_getElem? e1')
          simp only [Bool.and_eq_true, Bool.or_eq_true, beq_iff_eq] at hy
          obtain ⟨ky, ko⟩ := hy
          obtain ⟨m, hn, hl⟩ := I2.loc
          obtain ⟨u, r, lk⟩ := hl j y v e6 e5 (.inr ko)
          refine ⟨u, r, .inr ⟨ky, ?_⟩⟩
          rcases lk with ⟨kl, _⟩ | ⟨_, c, ec, hc⟩
          · have kl' : X.env.scope.names.lookup y = some .local := kl
            rw [kl'] at ko
            rcases ko with z | z <;> cases z
          · obtain ⟨c', ec'⟩ := has y ky
            have := clX y c' ec'
            rw [ec] at this
            cases this
            obtain ⟨o, ho, hd⟩ := hc
            exact ⟨c, ec', o, old c o ho, hd⟩
    · obtain ⟨v, o, ho, hd⟩ := I2.cell y c (clX y c e)
      exact ⟨v, o, old c o ho, hd⟩
    · show (none :: xR js σ).length = (x :: ys).length
      simp [xR, lenY]
  have loop : ∀ s3 : Shared, s3 = { s2 with heap := h₁, toks := s2.toks + ([] : List (Str × Value)).length } →
      codeAny (model X.prog X.w) X.A (.compLoop (.ListComp elt [⟨.Name x px, iter, [], 0⟩] scope pos) 0 (.ref it) (.ref s2.heap.objs.size) (compEnvC scope cl G.objs.size X.env))
        (compPost (model X.prog X.w) X.A X.xe use Q (.ref s2.heap.objs.size) G.objs.size) s3 := by
    rintro s3 rfl
    have stat : ∀ {H' : Hp} (o : Obj), (∀ b ∈ fp, H' b = none) → ∀ b ∈ fp, qAi (qm X scope cl G.objs.size (x :: ys) s2 H2 fp) [(s2.heap.objs.size, o)] H' b := fun {H'} o hn b hb => by
      obtain ⟨ob, eb⟩ := fpO b hb
      refine ⟨hn b hb, ltC b ob eb, stkFp b hb, .inl hb, fun y c e1 => (f2 b hb).2.2.2.2.1 y c (clX y c e1), fun p hp => ?_⟩
      have hp' : p = (s2.heap.objs.size, o) := by
        have : p ∈ [(s2.heap.objs.size, o)] := hp
        simpa using this
      rw [hp']
      exact Ne.symm (ltD b ob eb)
    refine codeAny_compLoop_list (fun n s' => ∃ i acc its H3, Inv (qm X scope cl G.objs.size (x :: ys) s2 H2 fp) [] (none :: xR js σ) H3 s' ∧ tn i s'.heap ∧ (∀ b ∈ fp, H3 b = none) ∧ s'.heap.PlainList s2.heap.objs.size its.toArray ∧ Vals acc its ∧ H3 s2.heap.objs.size = none ∧ W i n acc H3)
      ?_ m0 ⟨0, [], [], H2, I0, T.keep _ _ _ st2 fun b _ o e => old b o e, fun b hb => (f2 b hb).1, hacc, .nil, freshH _ (Nat.le_refl _), w0⟩
    rintro n s3 ⟨i, acc, its, H3, I3, st3, fr3, ⟨nn, pl3⟩, va3, hD3, w3⟩
    obtain ⟨hlen, cs⟩ := turn i n acc H3 w3
    have hal : acc.length = its.length := va3.length
    have nD : s2.heap.objs.size ∉ frs X.stack := fun z => by
      obtain ⟨o, e⟩ := stkO _ z
      exact ltD _ o e rfl
    have I3p : Inv (qm X scope cl G.objs.size (x :: ys) s2 H2 fp) [(s2.heap.objs.size, { cls := .type "list", data := .seq its.toArray nn })] (none :: xR js σ) H3 s3 := I3.pins_of fun p hp => by
      have e : p = (s2.heap.objs.size, { cls := .type "list", data := .seq its.toArray nn }) := by simpa using hp
      subst e
      exact ⟨pl3, hD3, DC, nD, fun v z => nomatch z⟩
    rcases cs with ⟨stop, q⟩ | ⟨go, step⟩
    · refine thn (T.done (qm X scope cl G.objs.size (x :: ys) s2 H2 fp) rfl rfl rfl hcm i _ s3 _ H3 _ I3p (stat _ fr3) st3 stop) fun r s4 hr => ?_
      obtain ⟨hr, I4⟩ := hr
      subst hr
      have pl4 := (I4.pin (s2.heap.objs.size, { cls := .type "list", data := .seq its.toArray nn }) (by simp)).1
      obtain ⟨m, hn, _⟩ := I4.loc
      have B := I4.base
      have un' : Un (frs X.stack) fp H2 (upd H3 s2.heap.objs.size (.lst acc)) s2.heap s4.heap := by
        refine ⟨fun b o e n hb hx => B.keep b o e n hb hx, fun b o e n hb hx => B.slot b o e n hb hx, fun b o e n hx => ?_, fun b o e hx => B.there b o e hx, fun b xs e => ?_, fun b o u e => ?_, fun b ps e => ?_⟩
        · rw [qP (ltD b o e)]
          exact B.free b o e n hx
        · have z := B.tups b xs e
          rw [qP (qL z hD3)]
          exact z
        · have z := B.frzs b o u e
          rw [qP (qL z hD3)]
          exact z
        · obtain ⟨more, z⟩ := B.tbls b ps e
          exact ⟨more, by rw [qP (qL z hD3)]; exact z⟩
      have freeC4 : H3 G.objs.size = none := I4.free
      have hok' : HOk X.prog X.w (upd H3 s2.heap.objs.size (.lst acc)) s4.heap := fun b u e => by
        by_cases hb : b = s2.heap.objs.size
        · subst hb
          rw [qD] at e
          cases e
          exact ⟨Nat.le_of_lt hlen, its, nn, va3, pl4⟩
        · rw [qP hb] at e
          exact (I4.hok b u e).stay (fun c v hc z => z) (fun c z => by rw [qP (qL z hD3)]; exact z) fun c xs z => by rw [qP (qL z hD3)]; exact z
      have hch : ∀ b ∈ fp, (b ∈ X.ex ∨ X.s₀.heap.objs.size ≤ b) ∧ b ≠ X.env.locals ∧ (∀ y c, X.env.cells.lookup y = some c → c ≠ b) ∧ ∀ p ∈ X.pn ++ pins, p.1 ≠ b := fun b hb => by
        obtain ⟨_, z1, _, z3, z4, z5⟩ := f2 b hb
        exact ⟨z3, z1, z4, z5⟩
      have I5 := I2.call' (s' := s4) (ch := fp) I4.os un' hok' I4.bare hch
      refine fin (.ref s2.heap.objs.size) _ _ s4 G.objs.size I5 rfl (q _ hD3) ⟨m, hn⟩ ?_ ?_ ?_ (fun y c e => ?_) fun p hp => ?_
      · rw [qP (Ne.symm DC)]; exact freeC4
      · rw [szG]; exact Nat.ne_of_gt (Nat.lt_succ_of_lt I2.lt)
      · rw [szG]; exact Nat.le_succ_of_le I2.sz
      · obtain ⟨v, o, ho, _⟩ := I2.cell y c e
        exact ltC c o ho
      · exact ltC p.1 p.2 (I2.pin p hp).1
    · refine thn (T.item (qm X scope cl G.objs.size (x :: ys) s2 H2 fp) rfl rfl rfl hcm i _ s3 _ H3 _ I3p (stat _ fr3) st3 go) fun r s4 hr => ?_
      obtain ⟨u, hr, h4⟩ := hr
      subst hr
      show wpAny (model X.prog X.w) X.A (letOwnedTupleGo (.Name x px) (.ref it) u >>= fun _ => assign (.Name x px) (compEnvC scope cl G.objs.size X.env) u) _ _ s4
      refine wpAny_bind (thn h4 fun _ s5 h5 => ?_)
      obtain ⟨v, H5, I5, r5, y5, st5, fr5⟩ := h5
      have I5' := I5.pinned (stat _ fr5) (T.obj _ _ st5)
      refine wpAny_assign_Name (jm (i := 0) I5' hnd rfl (.inl (lookup_relabel_local hx)) r5 (fun s6 I6 => ?_) (.inr (lookup_relabel_local hx)))
      have I6' : Inv (qm X scope cl G.objs.size (x :: ys) s2 H2 fp).nox _ _ H5 s6 := I6.wish _
      refine wpAny_mono (he G.objs.size s2 H2 fp _ s6 _ H5 _ I6' (step v H5 y5)) (fun y s7 h7 => ?_) fun _ _ z => z.elim
      obtain ⟨v7, H7, I7, r7, m', hm', w7⟩ := h7
      have I7 := I7.unwish
      have pinD := I7.pin (s2.heap.objs.size, { cls := .type "list", data := .seq its.toArray nn }) (by simp)
      refine wpAny_list_append_plain (items := its.toArray) ⟨nn, pinD.1⟩ (fun h' hp' hsb' => ?_) (by rw [List.size_toArray, ← hal]; exact Nat.le_of_lt hlen)
      have e8 : its.toArray.push y = (its ++ [y]).toArray := by simp
      rw [e8] at hp'
      have pf : ∀ b ∈ fp, ∀ o, s5.heap.get? b = some o → s7.heap.get? b = some o ∧ H7 b = none := fun b hb o e => by
        have z := I7.pin (b, o) (List.mem_append_right _ (List.mem_append_right _ (jy hb e)))
        exact ⟨z.1, z.2.1⟩
      have I8 : Inv (qm X scope cl G.objs.size (x :: ys) s2 H2 fp) [] (none :: xR js σ) H7 { s7 with heap := h' } := by
        have I7u : Inv (qm X scope cl G.objs.size (x :: ys) s2 H2 fp) [] (none :: xR js σ) H7 s7 := (I7.pins_of (pins' := []) fun p hp => absurd hp (by simp)).weak (by simp) fun k v e => by
          cases k with
          | zero => cases e
          | succ k => exact e
        refine I7u.turned (t' := s7.toks) (it := s2.heap.objs.size) (fun b o hb e => hsb'.extBut b o hb e) pinD.2.1 DC (.inr (Nat.le_refl _)) (fun y c e => ?_) fun p hp => absurd (show p ∈ ([] : List (Addr × Obj)) from hp) (by simp)
        obtain ⟨v, o, ho, _⟩ := I2.cell y c (clX y c e)
        exact ltD c o ho
      refine ⟨m', hm', i + 1, acc ++ [v7], its ++ [y], H7, I8, ?_, fun b hb => ?_, hp', va3.append (.cons r7 .nil), pinD.2.1, w7⟩
      · refine T.keep _ _ _ st5 fun b hb o e => hsb'.extBut b o ?_ (pf b hb o e).1
        obtain ⟨ob, eb⟩ := fpO b hb
        exact ltD b ob eb
      · obtain ⟨o, e, _⟩ := T.obj _ _ st5 b hb
        exact (pf b hb o e).2
  exact codeAny_compStart_list (loop _ rfl) (T.self _ 0 _ _ _ (T.keep _ _ _ st2 fun b _ o e => old b o e) (loop _ rfl))
theorem kz {X : Cx} {pins : List (Addr × Obj)} {σ : L2.St} {H : Hp} {s : Shared} {C : Addr} {h' : Heap} (I : Inv X pins σ H s) (hsb : Heap.SameBut C s.heap h') (h0 : H C = none) (h1 : C ≠ X.env.locals) (h2 : X.s₀.heap.objs.size ≤ C)
    (h3 : ∀ y c, X.env.cells.lookup y = some c → c ≠ C) (h4 : ∀ p ∈ X.pn ++ pins, p.1 ≠ C) : Inv X pins σ H { s with heap := h' } :=
  I.turned (t' := s.toks) (it := C) (fun b o hb e => hsb.extBut b o hb e) h0 h1 (.inr h2) h3 h4
theorem qBj {X : Cx} {elt iter : Expr} {x : Str} {px : Pos} {scope : Scope} {cl : List (Str × Addr)} {pos : Pos} {wi : TI} {te : TE} (ys : List Str) (js : List Nat)
    (hcm : X.calm = true) (hi : PI X (.Name x px) iter wi) (he : ∀ C s H fp, PE (qm X scope cl C (x :: ys) s H fp).nox elt te)
    (hclos : closureFor scope X.env = pure cl := by rfl)
    (hcl : cl.map (fun p => X.env.cells.lookup p.1) = cl.map (fun p => some p.2) := by rfl)
    (hcell : (scope.names.all fun p => p.2 != .cell) = true := by rfl) (hkind : scope.kind = .function := by rfl)
    (hnames : (scope.names.all fun p => p.2 != .local || scope.names.lookup p.1 == some .local) = true := by rfl)
    (hx : scope.names.lookup x = some .local := by rfl)
    (hhas : ((relabel scope X.env).names.all fun p => (p.2 != .cell && p.2 != .free) || (cl.lookup p.1).isSome) = true := by rfl)
    (hnd : (x :: ys).Nodup := by decide)
    (hjs : js.map (fun j => X.N[j]?) = ys.map some := by rfl)
    (hys : (ys.all fun y => ((relabel scope X.env).names.lookup y == some .cell || (relabel scope X.env).names.lookup y == some .free) && (X.env.scope.names.lookup y == some .cell || X.env.scope.names.lookup y == some .free)) = true := by rfl)
    (hs : ∀ x, foldedSetIterable iter X.env x = pure x := by intro _; rfl) : PE X (.ListComp elt [⟨.Name x px, iter, [], 0⟩] scope pos) (qBp js wi te) := by
  intro pins s σ H Q I h
  rw [eval_ListComp]
  refine wN ys js hcm hi he hclos hcl hcell hkind hnames hx hhas hnd hjs hys hs Q none (EP X pins σ Q) I h fun v u H' s' C I' r q hm h0 h1 h2 h3 h4 => ?_
  obtain ⟨m, hm⟩ := hm
  exact ⟨m, hm, fun h' hsb => ⟨v, H', kz I' hsb h0 h1 h2 h3 h4, r, q⟩⟩
def Nxt (n i : Nat) (P : Prop) : Prop := ∃ m', m' < n - i ∧ m' = n - (i + 1) ∧ i + 1 ≤ n ∧ P
theorem Nxt.mk {n i : Nat} {P : Prop} (h : i < n) (p : P) : Nxt n i P := ⟨n - (i + 1), by omega, rfl, h, p⟩
theorem vt {K : PySem.W.Frag} {a : Addr} {xs : List V} {js : List Nat} {te : TE} {σ : L2.St} {H : Hp} {Q : VK} (Pv : Nat → List V → Hp → Prop) (h0 : Pv 0 [] H) (hl : ∀ i acc H, i ≤ xs.length → Pv i acc H → SqL K H a xs ∧ acc.length < sizeLine)
    (hs : ∀ i x acc H, i < xs.length → xs[i]? = some x → Pv i acc H → te (some x :: xR js σ) H fun v H' => Nxt xs.length i (Pv (i + 1) (acc ++ [v]) H')) (hd : ∀ acc H, Pv xs.length acc H → ∀ D, H D = none → Q (.ref D) (upd H D (.lst acc))) : wA js te σ Q (Itl K a) H := by
  refine ⟨fun i m acc H => m = xs.length - i ∧ i ≤ xs.length ∧ Pv i acc H, ⟨xs.length, by simp, Nat.zero_le _, h0⟩, ?_⟩
  rintro i m acc H2 ⟨rfl, hi, p⟩
  obtain ⟨q, hz⟩ := hl i acc H2 hi p
  refine ⟨hz, ?_⟩
  by_cases hlt : i < xs.length
  · refine .inr ⟨⟨xs, xs[i], q, by simp [hlt]⟩, fun x H3 y => ?_⟩
    obtain ⟨e, y⟩ := y
    subst e
    exact hs i x acc _ hlt (y xs q) p
  · have e : i = xs.length := by omega
    subst e
    exact .inl ⟨⟨xs, q, Nat.le_refl _⟩, hd acc H2 p⟩
end L3
set_option maxHeartbeats 4000000
namespace L3
open PySem PySem.Spec PyProof.Rows L2
structure Def (K : PySem.W.Frag) (mg : Str → Option Value) (x : Str) (st : Stmt) (ps : List Str) (f : Addr) (fd : FuncData) : Prop where
  F : Fun K x x st f fd
  b : Binds K fd ps []
  m : mg x = some (.ref f)
section
variable {X : Cx}
theorem qS {k j : Nat} {x : Str} {st : Stmt} {ps : List Str} {f : Addr} {fd : FuncData} {sp : Sp} {e : Expr} {es : List Expr} {t : TA} {p pos : Pos} (D : Def X.K X.mg x st ps f fd) (F : FnOk X.prog X.w X.K X.mg X.base CX0 j f fd ps sp) (hr : Room k X.A) (hg : Gl X x) (ha : PA X (e :: es) t) (hj : j ≤ k := by decide)
    (hdb : (x == ("__debug__" : Str)) = false := by decide) (he : starEach (e :: es) X.env = (false, eval e X.env) :: starEach es X.env := by rfl) (hpl : (backTo pos (starEach es X.env)).any (·.1) = false := by rfl) :
    PE X (.Call (.Name x p) (e :: es) [] pos) (qAx sp [] E0 t) := wR F (hr.mono hj) hg D.m D.F.kp D.b .nil qCo ha hdb he hpl
theorem xV {x : Str} {n : String} {pos : Pos} (hg : Gl X x) (hm : X.mg x = none) (hv : bootBuiltins x = some (.type n)) (hn : x ≠ "__name__" := by decide) (hd : (x == ("__debug__" : Str)) = false := by decide) : PE X (.Name x pos) (tC (.ty n)) :=
  qA4 hg hm hv rfl hn hd
end
theorem qA8 {X : Cx} {K : PySem.W.Frag} (h : X.K = K) : IxR X (qDa K) := h ▸ qJ
def qCt (t : TS) : TS := fun D σ H => ∃ R : L2.St → Hp → Prop, t { D with nx := R } σ H ∧ ∀ σ' H', R σ' H' → D.nx σ' H'
theorem zj {X : Cx} {st : Stmt} {t : TS} (h : PS X st t) : PS X st (qCt t) := by
  rintro pins s σ H D I ⟨R, ht, hR⟩
  refine thn (h pins s σ H { D with nx := R } I ht) fun f s' q => ?_
  cases f with
  | next => obtain ⟨σ', H', I', r⟩ := q; exact ⟨σ', H', I', hR _ _ r⟩
  | brk => exact q
  | cont => exact q
  | ret u => exact q
theorem qE {H : Hp} {p : Addr} (h : H p = none) (o : HO) : Same H (upd H p o) := fun b u q => by rw [qP (qL q h)]; exact q
theorem Same.tup {K : PySem.W.Frag} {H H' : Hp} {a : Addr} {xs : List V} (e : Same H H') (h : SqT K H a xs) : SqT K H' a xs := by
  rcases h with (h | ⟨o, h⟩) | h
  · exact .inl (.inl (e _ _ h))
  · exact .inl (.inr ⟨o, e _ _ h⟩)
  · exact .inr h
end L3
set_option maxHeartbeats 4000000
namespace L3
open PySem PySem.Spec PyProof.Rows L2
section
variable {X : Cx}
def DE1 (K : PySem.W.Frag) (H : Hp) (x y : V) (b : Bool) : Prop := (jv x = true ∧ jv y = true ∧ b = eqV x y) ∨
  ∃ p q xs ys, x = .ref p ∧ y = .ref q ∧ SqT K H p xs ∧ SqT K H q ys ∧ xs.all jv = true ∧ ys.all jv = true ∧ b = vw xs ys ∧ (p = q → b = true)
theorem DE1.at {pins : List (Addr × Obj)} {σ : L2.St} {H : Hp} {s : Shared} {A : Around} {x y : V} {u v : Value} {b : Bool} (I : Inv X pins σ H s) (hu : A.units < cLine) (rx : RelV x u) (ry : RelV y v) (h : DE1 X.K H x y b) : SeqAt.EqAt A s u v b := by
  rcases h with ⟨f1, f2, rfl⟩ | ⟨p, q, xs, ys, rfl, rfl, h1, h2, f1, f2, rfl, hb⟩
  · exact vG rx ry f1 f2
  · cases rx; cases ry
    by_cases e : p = q
    · subst e
      rw [hb rfl]
      exact SeqAt.EqAt.same _
    · obtain ⟨us, r1, t1, _⟩ := I.tuple h1
      obtain ⟨ws, r2, t2, _⟩ := I.tuple h2
      have l1 : us.toArray.size = xs.length := by rw [List.size_toArray]; exact r1.length.symm
      have l2 : ws.toArray.size = ys.length := by rw [List.size_toArray]; exact r2.length.symm
      have := SeqAt.EqAt.of_refs e (SeqAt.RcAt.tuples t1 t2 hu (zI (A := A.in1) (s := s) r1 r2 f1 f2))
      rw [l1, l2] at this
      exact this
end
end L3
set_option maxHeartbeats 4000000
namespace L3
open PySem PySem.Spec PyProof.Rows L2
def xY (h : Heap) (e : Addr) (C : Value) (hd : Option Addr) : Prop :=
  ∃ (vs : Array Value) (sl : Array (Option Value)), h.get? e = some { cls := C, dict := none, data := .fields vs, slots := sl } ∧
    match hd with
    | none => vs[1]? = some .none
    | some T => vs[1]? = some (.ref T) ∧ T ≠ e ∧ ∃ oT ts, h.get? T = some oT ∧ oT.data = .fields ts ∧ ts[3]? = some .none
structure Noted (fs : List Addr) (e : Addr) (hd : Option Addr) (C : Value) (h h' : Heap) : Prop where
  keep : ∀ b o, h.get? b = some o → b ∉ fs → b ≠ e → some b ≠ hd → h'.get? b = some o
  slot : ∀ b o, h.get? b = some o → b ∈ fs → b ≠ e → some b ≠ hd → ∃ sl, h'.get? b = some { o with slots := sl }
  ent : ∃ T, (h.get? T = none ∨ hd = some T) ∧ xY h' e C (some T)
theorem Noted.before {fs : List Addr} {e T : Addr} {C : Value} {h h1 h' : Heap} (x : Noted fs e none C h1 h') (k : ∀ b, b ≠ T → h1.get? b = h.get? b) (t : ∃ o, h1.get? T = some o) : Noted fs e (some T) C h h' := by
  refine ⟨fun b o q hf he ht => x.keep b o ?_ hf he (by simp), fun b o q hf he ht => x.slot b o ?_ hf he (by simp), ?_⟩
  · rw [k b (fun z => ht (by rw [z]))]; exact q
  · rw [k b (fun z => ht (by rw [z]))]; exact q
  · obtain ⟨T', n | n, r⟩ := x.ent
    · refine ⟨T', .inl ?_, r⟩
      rw [← k T' (fun z => ?_)]; exact n
      obtain ⟨o, q⟩ := t
      rw [z, q] at n; cases n
    · cases n
section
variable {M : Model} {A : Around} {E : Value → Shared → Prop} {s : Shared}
theorem zt {base : Heap} {env : Env} {outer : List Env} {L e : Addr} {C head : Value} {vs : Array Value} {sl : Array (Option Value)} {had : Bool} {Q : Unit → Shared → Prop}
    (fr : A.frames = some (env :: outer)) (ff : s.heap.FunFrames base (env :: outer)) (ef : env.frame = some L) (re : s.heap.get? e = some { cls := C, dict := none, data := .fields vs, slots := sl }) (v1 : 1 < vs.size)
    (k : ∀ h', Noted (frs (env :: outer)) e none C s.heap h' → Q () { s with heap := h' }) :
    wpAny M A (do let a ← frameOf env; let pl ← entryPlaceOf L had; let b ← EntryCells.newEntry head a .none (rawInt L) .none pl; setField (.ref e) 1 b) (fun _ s' => wpAny M A (setFlight (.ref e) none) Q E s') E s := by
  have efs : e ∉ frs (env :: outer) := fun z => by
    obtain ⟨_, o, q, nf⟩ := ff.mem z
    rw [re] at q; cases q
    exact nf vs rfl
  refine wpAny_bind (wpAny_frameOf_fun fr ff ef fun g so => ?_)
  refine wpAny_bind (wpAny_entryPlaceOf fun pl ip => ?_)
  unfold EntryCells.newEntry newFields
  refine wpAny_bind (wpAny_newObj_type ?_ (ip.sizeOk5 _ _ _ _ _))
  generalize hN : ({ cls := .type "traceback", dict := none, data := .fields ([head, .ref L, .none, rawInt L, .none] ++ (if pl.isEmpty then List.replicate 6 Value.none else pl)).toArray } : Obj) = N
  have Nd : N.data = .fields ([head, .ref L, .none, rawInt L, .none] ++ (if pl.isEmpty then List.replicate 6 Value.none else pl)).toArray := by rw [← hN]
  have q1 : g.get? e = some { cls := C, dict := none, data := .fields vs, slots := sl } := (so.2.1 e efs).trans re
  have q2 := Heap.get?_push_of_some (h := g) N q1
  have ne : g.objs.size ≠ e := Nat.ne_of_gt (Heap.lt_size q1)
  refine wpAny_setField q2 rfl v1 ?_
  have q3 := Heap.get?_update_self (Obj.mapFields (·.setIfInBounds 1 (Value.ref g.objs.size))) q2 rfl
  have nf : N.isFreed = false := Obj.isFreed_of_fields Nd
  have t3 : ((g.push N).update e (Obj.mapFields (·.setIfInBounds 1 (Value.ref g.objs.size)))).get? g.objs.size = some N :=
    (Heap.get?_update_other (g.push N) _ (Ne.symm ne)).trans (Heap.get?_push_size g nf)
  unfold setFlight
  refine wpAny_bind (wpAny_field q3 (vs := vs.setIfInBounds 1 (.ref g.objs.size)) rfl (x := .ref g.objs.size) (by simp [v1]) ?_)
  rw [if_pos (by simp)]
  refine wpAny_setField t3 Nd (by simp only [List.size_toArray, List.length_append, List.length_cons, List.length_nil] <;> omega) (k _ ?_)
  have t4 := Heap.get?_update_self (Obj.mapFields (·.setIfInBounds 3 ((none : Option Addr).elim Value.none fun f => rawInt f))) t3 (Obj.isFreed_of_fields (Obj.data_mapFields Nd _))
  have oth : ∀ b o, b ≠ e → g.get? b = some o → (((g.push N).update e (Obj.mapFields (·.setIfInBounds 1 (Value.ref g.objs.size)))).update g.objs.size (Obj.mapFields (·.setIfInBounds 3 ((none : Option Addr).elim Value.none fun f => rawInt f)))).get? b = some o := fun b o hb q => by
    rw [Heap.get?_update_other _ _ (Nat.ne_of_gt (Heap.lt_size q)), Heap.get?_update_other _ _ (Ne.symm hb)]
    exact Heap.get?_push_of_some _ q
  refine ⟨fun b o q hf he _ => oth b o he ((so.2.1 b hf).trans q), fun b o q hf he _ => ?_, g.objs.size, .inl ?_, vs.setIfInBounds 1 (.ref g.objs.size), sl, ?_, by simp [v1], ne, _, _, t4, Obj.data_mapFields Nd _, ?_⟩
  · obtain ⟨sl', q'⟩ := so.2.2 b o q
    exact ⟨sl', oth b _ he q'⟩
  · rw [so.1]
    exact Heap.get?_none_of_le (Nat.le_refl _)
  · rw [Heap.get?_update_other _ _ ne]
    exact q3
  · first
      | (simp; done)
      | (rcases ip with rfl | ⟨_, _, _, _, _, _, _, rfl⟩ <;> simp)
theorem wE {base : Heap} {env : Env} {outer : List Env} {L e : Addr} {C : Value} {hd : Option Addr} {Q : Unit → Shared → Prop}
    (fr : A.frames = some (env :: outer)) (ff : s.heap.FunFrames base (env :: outer)) (ef : env.frame = some L) (re : xY s.heap e C hd)
    (k : ∀ h', Noted (frs (env :: outer)) e hd C s.heap h' → Q () { s with heap := h' }) : wpAny M A (noteFrame (.ref e) env) (fun _ s' => wpAny M A (setFlight (.ref e) none) Q E s') E s := by
  obtain ⟨vs, sl, q, r⟩ := re
  unfold noteFrame
  simp only [ef]
  cases hd with
  | none =>
    refine wpAny_bind (wpAny_field q rfl r ?_)
    rw [if_neg (by decide)]
    exact zt fr ff ef q (Array.getElem?_eq_some_iff.mp r).1 k
  | some T =>
    obtain ⟨r1, nT, oT, ts, qT, dT, r3⟩ := r
    refine wpAny_bind (wpAny_field q rfl r1 ?_)
    rw [if_pos (by simp)]
    refine wpAny_bind (wpAny_field qT dT r3 ?_)
    rw [if_neg (by simp [rawInt])]
    refine wpAny_bind (wpAny_setField qT dT (Array.getElem?_eq_some_iff.mp r3).1 ?_)
    have oth : ∀ b, b ≠ T → (s.heap.update T (Obj.mapFields (·.setIfInBounds 3 Value.none))).get? b = s.heap.get? b := fun b z => Heap.get?_update_other _ _ (Ne.symm z)
    have qT' := Heap.get?_update_self (Obj.mapFields (·.setIfInBounds 3 Value.none)) qT (Obj.isFreed_of_fields (Obj.data_mapFields dT _))
    have nf : ∀ b o, s.heap.get? b = some o → (∀ vs, o.data ≠ .fields vs) → b ≠ T := fun b o z n w => by
      rw [w, qT] at z; cases z
      exact n ts dT
    refine zt (s := { s with heap := s.heap.update T (Obj.mapFields (·.setIfInBounds 3 Value.none)) }) fr (ff.of_keeps fun b o z n => ⟨o, (oth b (nf b o z n)).trans z, rfl⟩) ef ((oth e (Ne.symm nT)).trans q) (Array.getElem?_eq_some_iff.mp r1).1 fun h' x => ?_
    exact k h' (x.before oth ⟨_, qT'⟩)
theorem kT {e T : Addr} {C : Value} {Q : Unit → Shared → Prop} (re : xY s.heap e C (some T))
    (k : ∀ h', (∀ fs, Noted fs e (some T) C s.heap h') → Q () { s with heap := h' }) : wpAny M A (setFlight (.ref e) none) Q E s := by
  obtain ⟨vs, sl, q, r1, nT, oT, ts, qT, dT, r3⟩ := re
  unfold setFlight
  refine wpAny_bind (wpAny_field q rfl r1 ?_)
  rw [if_pos (by simp)]
  have oth : ∀ b, b ≠ T → (s.heap.update T (Obj.mapFields (·.setIfInBounds 3 ((none : Option Addr).elim Value.none fun f => rawInt f)))).get? b = s.heap.get? b := fun b z => Heap.get?_update_other _ _ (Ne.symm z)
  refine wpAny_setField qT dT (Array.getElem?_eq_some_iff.mp r3).1 (k _ fun fs => ⟨fun b o q _ _ z => ?_, fun b o q _ _ z => ⟨o.slots, ?_⟩, T, .inr rfl, ?_⟩)
  · rw [oth b fun w => z (by rw [w])]; exact q
  · rw [oth b fun w => z (by rw [w])]; exact q
  · refine ⟨vs, sl, (Heap.get?_update_other _ _ nT).trans q, r1, nT, _, _, Heap.get?_update_self _ qT (Obj.isFreed_of_fields (Obj.data_mapFields dT _)), Obj.data_mapFields dT _, ?_⟩
    have h3 := (Array.getElem?_eq_some_iff.mp r3).1
    simp [h3]
end
end L3
set_option maxHeartbeats 4000000
namespace L3
open PySem PySem.Spec PyProof.Rows L2
theorem qAt {P : Program} {w : World} {H : Hp} {h : Heap} {a : Addr} {o : HO} (x : ObjOk P w H h a o) : ∃ ob, h.get? a = some ob := by
  cases o with
  | lst xs => obtain ⟨_, _, _, _, e⟩ := x; exact ⟨_, e⟩
  | tup xs => obtain ⟨_, _, _, ob, e, _⟩ := x; exact ⟨ob, e⟩
  | dK kvs => obtain ⟨_, _, _, _, o, _, _, e, _⟩ := x; exact ⟨_, e⟩
  | dT kvs => obtain ⟨_, _, _, _, o, _, _, e, _⟩ := x; exact ⟨_, e⟩
  | set S n => obtain ⟨o, _, _, _, e, _⟩ := x; exact ⟨_, e⟩
  | ins C dx fs => obtain ⟨_, _, _, e, _⟩ := x; exact ⟨_, e⟩
  | own y => exact x
  | xd fs => obtain ⟨_, ⟨_, _, _, e, _⟩, _⟩ := x; exact ⟨_, e⟩
  | rng lo hi => obtain ⟨_, _, _, e⟩ := x; exact ⟨_, e⟩
  | frz ob u => obtain ⟨e, _⟩ := x; exact ⟨_, e⟩
  | tbl ps => exact ⟨_, x⟩
  | met f y => exact ⟨_, x⟩
  | ext φ => exact x.2.1
def wO (h₀ : Heap) (H : Hp) (ps : List (Addr × Obj)) (e : Addr) : Prop := h₀.get? e = none ∧ H e = none ∧ ∀ p ∈ ps, p.1 ≠ e
def qAz (h₀ : Heap) (H : Hp) (ps : List (Addr × Obj)) (h : Heap) (e : Addr) (C : Value) : Prop :=
  wO h₀ H ps e ∧ ∃ hd, xY h e C hd ∧ ∀ T, hd = some T → wO h₀ H ps T
def CXR (P : Program) (w : World) : CXT := fun outer H s E e s' => ∃ ea C H', e = .ref ea ∧ s'.os = s.os ∧ AllBare s'.gens ∧ Un (frs outer) [] H H' s.heap s'.heap ∧ HOk P w H' s'.heap ∧ qAz s.heap H' [] s'.heap ea C ∧ E C none H'
def XE (X : Cx) (Ex : Value → Hp → Prop) : Value → Shared → Prop := fun e s' => ∃ ea C σ H', e = .ref ea ∧ Inv X [] σ H' s' ∧ qAz X.s₀.heap H' X.pn s'.heap ea C ∧ Ex C H'
section
variable {X : Cx} {σ : L2.St} {H : Hp} {s : Shared}
theorem j9 {e : Addr} {hd : Option Addr} {C : Value} {h' : Heap} (I : Inv X [] σ H s) (hex : X.ex = []) (re : xY s.heap e C hd) (n1 : wO X.s₀.heap H X.pn e) (n3 : ∀ T, hd = some T → wO X.s₀.heap H X.pn T)
    (N : Noted (frs X.stack) e hd C s.heap h') : Inv X [] σ H { s with heap := h' } ∧ qAz X.s₀.heap H X.pn h' e C := by
  have B := I.base
  rw [hex] at B
  have ne : ∀ b o, X.s₀.heap.get? b = some o → b ≠ e ∧ some b ≠ hd ∧ b ≠ X.env.locals := fun b o q => by
    refine ⟨fun z => ?_, fun z => ?_, Nat.ne_of_lt (Nat.lt_of_lt_of_le (Heap.lt_size q) I.ok.above)⟩
    · rw [z, n1.1] at q; cases q
    · rw [(n3 b z.symm).1] at q; cases q
  have nin : ∀ b, b ∉ ([] : List Addr) := fun b z => nomatch z
  have nfl : ∀ b o, s.heap.get? b = some o → (∀ vs, o.data ≠ .fields vs) → b ≠ e ∧ some b ≠ hd := fun b o q nf => by
    obtain ⟨vs, sl, qe, r⟩ := re
    refine ⟨fun z => ?_, fun z => ?_⟩
    · rw [z, qe] at q; cases q
      exact nf vs rfl
    · subst z
      obtain ⟨_, _, oT, ts, qT, dT, _⟩ := r
      rw [qT] at q; cases q
      exact nf ts dT
  have up : ∀ b o, s.heap.get? b = some o → b ≠ e → some b ≠ hd → ∃ sl, h'.get? b = some { o with slots := sl } := fun b o q z1 z2 => by
    by_cases hs : b ∈ frs X.stack
    · exact N.slot b o q hs z1 z2
    · exact ⟨o.slots, N.keep b o q hs z1 z2⟩
  have un : Un X.fs [] X.H₀ H X.s₀.heap h' := by
    refine ⟨fun b o q n hb hx => ?_, fun b o q n hb hx => ?_, fun b o q n hx => B.free b o q n hx, fun b o q hx => ?_, B.tups, B.frzs, B.tbls⟩
    · obtain ⟨z1, z2, z3⟩ := ne b o q
      refine N.keep b o (B.keep b o q n hb hx) (fun z => ?_) z1 z2
      rcases List.mem_cons.mp (I.stkSub b z) with w | w
      · exact z3 w
      · exact hb w
    · obtain ⟨z1, z2, z3⟩ := ne b o q
      obtain ⟨sl, q1⟩ := B.slot b o q n hb hx
      obtain ⟨sl', q2⟩ := up b _ q1 z1 z2
      exact ⟨sl', q2⟩
    · obtain ⟨z1, z2, z3⟩ := ne b o q
      obtain ⟨o', q1⟩ := B.there b o q hx
      obtain ⟨sl', q2⟩ := up b _ q1 z1 z2
      exact ⟨_, q2⟩
  have hok : HOk X.prog X.w H h' := fun a u q => by
    have key : ∀ c, H c = none → ¬ (c = a ∨ H c = some (.own a)) := fun c z w => by
      rcases w with w | w
      · rw [w, q] at z; cases z
      · rw [z] at w; cases w
    exact (I.hok a u q).stay (fun c v hc z => N.keep c v z (fun w => key c (I.stkFree c w) hc) (fun w => key c (by rw [w]; exact n1.2.1) hc) fun w => key c (n3 c w.symm).2.1 hc) (fun _ z => z) fun _ _ z => z
  have cellK : ∀ c v, s.heap.IsCell c v → h'.IsCell c v := fun c v ⟨o, q, d⟩ => by
    obtain ⟨z1, z2⟩ := nfl c o q fun vs w => by rw [d] at w; cases w
    obtain ⟨sl, q'⟩ := up c o q z1 z2
    exact ⟨_, q', d⟩
  have I' : Inv X [] σ H { s with heap := h' } := by
    refine ⟨I.ok, I.os, I.bare, by rw [hex]; exact un, ?_, fun y c e => ?_, I.free, I.freeC, fun p hp => ?_, hok, I.len⟩
    · obtain ⟨m, ⟨o, es, ep, ho, hd', r⟩, hl⟩ := I.loc
      obtain ⟨z1, z2⟩ := nfl _ o ho fun vs w => by rw [hd'] at w; cases w
      obtain ⟨sl, q'⟩ := up _ o ho z1 z2
      refine ⟨m, ⟨_, es, ep, q', hd', r⟩, fun i x v e1 e2 e3 => ?_⟩
      obtain ⟨u, r, l⟩ := hl i x v e1 e2 e3
      refine ⟨u, r, ?_⟩
      rcases l with l | ⟨k, c, ec, z⟩
      · exact .inl l
      · exact .inr ⟨k, c, ec, cellK c _ z⟩
    · obtain ⟨v, z⟩ := I.cell y c e
      exact ⟨v, cellK c v z⟩
    · obtain ⟨q, n, nl, nf, d⟩ := I.pin p hp
      have hp' : p ∈ X.pn := by simpa using hp
      refine ⟨N.keep p.1 p.2 q (fun z => ?_) (n1.2.2 p hp') fun z => (n3 p.1 z.symm).2.2 p hp' rfl, n, nl, nf, d⟩
      rcases List.mem_cons.mp (I.stkSub p.1 z) with w | w
      · exact nl w
      · exact nf w
  refine ⟨I', n1, ?_⟩
  obtain ⟨T, nT, r⟩ := N.ent
  refine ⟨some T, r, fun T' e' => ?_⟩
  cases e'
  rcases nT with nT | nT
  rotate_left
  · exact n3 T nT
  refine ⟨?_, ?_, fun p hp z => ?_⟩
  · cases q : X.s₀.heap.get? T with
    | none => rfl
    | some o =>
      obtain ⟨o', z⟩ := B.there T o q (nin T)
      rw [nT] at z; cases z
  · cases q : H T with
    | none => rfl
    | some u =>
      obtain ⟨o', z⟩ := qAt (I.hok T u q)
      rw [nT] at z; cases z
  · have q := (I.pin p (List.mem_append_left _ hp)).1
    rw [z, nT] at q; cases q
end
theorem qBc {X : Cx} {E : Value → Shared → Prop} {st : List Stmt} {t : TS} (h : PSs (X.wish E) st t) (hE : ∀ e s', E e s' → X.xe e s') : PSs X st t := fun pins s σ H D I hw =>
  wpAny_mono (h pins s σ H D (I.wish E) hw) (fun _ _ q => q.unwish) hE
section
variable {P : Program} {w : World} {K : PySem.W.Frag} {mg : Str → Option Value} {base : Heap}
theorem okX {x qual : Str} {st : Stmt} {f : Addr} {fd : FuncData} {N ps : List Str} {k : Nat} {sp : Sp} (F : Fun K x qual st f fd) (S : qW N ps (qF st)) (len : ∀ vs H Q E, sp vs H Q E → vs.length = ps.length)
    (hbody : ∀ (cdv : Value) (A : Around) (outer : List Env) (s : Shared) (H : Hp) (vs : List V) (Q : VK) (E : XK), Room k (A.deeper (envOfC qual (qF st) s.heap.objs.size f cdv)) → sp vs H Q E →
      ∃ t, PSs ((wW (CXR P w) P w K mg base N qual (qF st) f cdv A outer s H E).wish (XE (wW (CXR P w) P w K mg base N qual (qF st) f cdv A outer s H E) fun C H' => E C none H')) (qQ st) t ∧
        t { nx := fun _ H' => Q .non H', rt := Q } (zY N vs) H) : FnOk P w K mg base (CXR P w) (k + 1) f fd ps sp := by
  obtain ⟨oc, od, kV, doc, pm, an, cdv, ct, osl, rfl, lk, hcd⟩ := F.ex
  refine qBt lk hcd S len fun A outer s H vs Q E hr hsp => ?_
  obtain ⟨t, h, q⟩ := hbody cdv A outer s H vs Q E hr hsp
  refine ⟨t, qBc h ?_, q⟩
  rintro e s' ⟨ea, C, σ, H', rfl, I, ⟨n1, hd, r, n3⟩, z⟩
  show wpAny _ _ (leaving _ _) _ _ _
  unfold leaving
  refine wpAny_bind (wE I.ok.frames I.stack rfl r fun h' N' => ?_)
  obtain ⟨I', x'⟩ := j9 I rfl r n1 n3 N'
  exact ⟨ea, C, H', rfl, I.os, I.bare, I'.base, I'.hok, x', z⟩
end
theorem qC7 {X : Cx} {Ex : Value → Hp → Prop} (hex : X.ex = []) : vA (CXR X.prog X.w) (X.wish (XE X Ex)) (fun C _ H' => Ex C H') := by
  rintro pins σ H s e s' I ⟨ea, C, H', rfl, os, bare, un, hok, ⟨n1, hd, r, n3⟩, q⟩
  have I0 := I.unwish
  have I1 : Inv X pins σ H' s' := I0.call' (ch := []) os un hok bare fun b z => nomatch z
  have old : ∀ b, s.heap.get? b = none → X.s₀.heap.get? b = none := fun b z => by
    cases w : X.s₀.heap.get? b with
    | none => rfl
    | some o =>
      obtain ⟨o', w'⟩ := I0.base.there b o w (by rw [hex]; intro y; cases y)
      rw [z] at w'; cases w'
  have pn : ∀ b, s.heap.get? b = none → ∀ p ∈ X.pn, p.1 ≠ b := fun b z p hp w => by
    have q := (I0.pin p (List.mem_append_left _ hp)).1
    rw [w, z] at q; cases q
  exact ⟨ea, C, σ, H', rfl, I1.pins_of (pins' := []) fun p hp => (nomatch hp), ⟨⟨old _ n1.1, n1.2.1, pn _ n1.1⟩, hd, r, fun T e => ⟨old _ (n3 T e).1, (n3 T e).2.1, pn _ (n3 T e).1⟩⟩, q⟩
theorem zQ {X : Cx} {Ex : Value → Hp → Prop} {k j : Nat} {x : Str} {st : Stmt} {ps : List Str} {f : Addr} {fd : FuncData} {sp : Sp} {e : Expr} {es : List Expr} {t : TA} {p pos : Pos} (D : Def X.K X.mg x st ps f fd) (F : FnOk X.prog X.w X.K X.mg X.base (CXR X.prog X.w) j f fd ps sp) (hr : Room k X.A) (hg : Gl X x)
    (ha : PA (X.wish (XE X Ex)) (e :: es) t) (hj : j ≤ k := by decide) (hex : X.ex = [] := by rfl)
    (hdb : (x == ("__debug__" : Str)) = false := by decide) (he : starEach (e :: es) X.env = (false, eval e X.env) :: starEach es X.env := by rfl) (hpl : (backTo pos (starEach es X.env)).any (·.1) = false := by rfl) :
    PE (X.wish (XE X Ex)) (.Call (.Name x p) (e :: es) [] pos) (qAx sp [] (fun C _ H' => Ex C H') t) :=
  wR (X := X.wish (XE X Ex)) (CX := CXR X.prog X.w) F (hr.mono hj) hg D.m D.F.kp D.b .nil (qC7 hex) ha hdb he hpl
def qDc : List Value := [.type "ValueError", .type "Exception", .type "BaseException", .type "object"]
def OwnX (K : PySem.W.Frag) (C : Addr) : Prop := PySem.W.excIn K C qDc "ValueError.__new__" = true
theorem qBm {K : PySem.W.Frag} {h : Heap} {mg : Str → Option Value} {x : Str} {C : Addr} (X : K.In h) (b : mg x = some (.ref C)) (q : OwnX K C) : OwnCls x C qDc "ValueError.__new__" mg h := by
  refine ⟨b, ?_⟩
  unfold OwnX PySem.W.excIn at q
  split at q
  · rename_i dd cd sl ho
    split at q
    · rename_i C' bm k0 k1 k2 k3 n k5 hm hs
      simp only [Bool.and_eq_true, beq_iff_eq, Bool.not_eq_true'] at q
      obtain ⟨⟨⟨⟨⟨eC, en⟩, del⟩, ht⟩, ok⟩, ni⟩ := q
      subst eC en
      obtain ⟨nm, bs, mro, ns, qn, hd, sn, sub, ab, col, dl⟩ := cd
      dsimp only at hm del ok ni
      subst hm del
      have hsl : sl = #[k0, k1, k2, k3, some (.builtin "ValueError.__new__"), k5] := by
        obtain ⟨l⟩ := sl
        simp only at hs
        rw [hs]
      subst hsl
      exact ⟨bm, ns, nm, qn, bs, hd, sn, sub, ab, col, dd, k0, k1, k2, k3, k5, _, X _ _ ho, .of_isNs (PySem.W.isNs_of_in X ok), PySem.W.nsMap_none_of_in X ok ni, PySem.W.tail_of_in X ht⟩
    · cases q
  · cases q
def qB9 (C : Addr) (Ex : Value → Hp → Prop) (t : TA) : TS := fun _ σ H => t σ H fun vs H1 => vs.length ≤ sizeLine ∧ Ex (.ref C) H1
theorem wY {X : Cx} {Ex : Value → Hp → Prop} {x : Str} {C : Addr} {np cpos pos : Pos} {e₀ : Expr} {kD : List Expr} {t : TA} (hcm : X.calm = true) (hg : Gl X x) (hm : X.mg x = some (.ref C)) (hx : OwnX X.K C) (ha : PA (X.wish (XE X Ex)) (e₀ :: kD) t)
    (he : starEach (e₀ :: kD) X.env = (false, eval e₀ X.env) :: starEach kD X.env := by rfl) (hpl : (backTo cpos (starEach kD X.env)).any (·.1) = false := by rfl) (hex : X.ex = [] := by rfl) (hdb : (x == ("__debug__" : Str)) = false := by decide) :
    PS (X.wish (XE X Ex)) (.Raise (some (.Call (.Name x np) (e₀ :: kD) [] cpos)) none pos) (qB9 C Ex t) := by
  intro pins s σ H D I h
  obtain ⟨tl, N, nm, q, bs, hdct, sn, sub, ab, col, dd, k0, k1, k2, k3, k5, mN, hC, hN, hni, T⟩ :=
    (qBm (X := I.ok.mod.kin) hm hx).obj
  refine wpAny_Raise_call_subT (bm := tl) (C := C) (N := N) (nm := nm) (q := q) (bs := bs) (hdct := hdct) (sn := sn) (sub := sub) (ab := ab) (col := col) (dd := dd) (k5 := k5) (k0 := k0) (k1 := k1) (k2 := k2) (k3 := k3)
    PySem.F.excBase_ValueError (mN := mN) (T.hasType PySem.F.excBase_ValueError.hasBase) (I.ok.hd hcm) (by rw [he]; show (false || (backTo cpos (starEach kD X.env)).any (·.1)) = false; rw [hpl]; rfl) hni (zL I hg hm ⟨rfl, ?_⟩ hdb)
  have z := ha cpos pins s σ H _ I h
  rw [show (X.wish (XE X Ex)).env = X.env from rfl] at z
  rw [he] at z ⊢
  refine Calls.evalArgs_plain (wpAny_mono z (fun us s2 w => ?_) fun _ _ y => y)
  obtain ⟨vs, H1, I1, r1, hl, ex⟩ := w
  have I1' := I1.unwish
  refine ⟨rfl, by rw [← r1.length]; exact hl, I1.bk _ _ hC, hN.keeps I1.bk, T.keeps I1.bk, fun h' e hmk => ?_⟩
  obtain ⟨tt, q1, q2, q3⟩ := hmk.there
  have I2 : Inv X pins σ H1 { s2 with heap := h' } := I1'.kept (t' := s2.toks) hmk.keeps
  refine ⟨e, .ref C, σ, H1, rfl, I2.pins_of (pins' := []) fun p hp => (nomatch hp), ⟨⟨?_, ?_, fun p hp z => ?_⟩, none, ⟨_, _, q1, rfl⟩, fun T e' => nomatch e'⟩, ex⟩
  · cases w : X.s₀.heap.get? e with
    | none => rfl
    | some o =>
      obtain ⟨o', w'⟩ := I1'.base.there e o w (by rw [hex]; intro y; cases y)
      rw [hmk.new] at w'; cases w'
  · cases w : H1 e with
    | none => rfl
    | some u =>
      obtain ⟨o', w'⟩ := qAt (I1'.hok e u w)
      rw [hmk.new] at w'; cases w'
  · have q' := (I1'.pin p (List.mem_append_left _ hp)).1
    rw [z, hmk.new] at q'; cases q'
end L3
set_option maxHeartbeats 4000000
namespace L3
open PySem PySem.Spec PyProof.Rows L2
def pnX (X : Cx) (l : List (Addr × Obj)) : Cx := { X with pn := l }
def hdX (X : Cx) (ea : Addr) : Cx := { X with A := X.A.mark (some (.ref ea)), calm := false }
section
variable {X : Cx} {pins : List (Addr × Obj)} {σ : L2.St} {H : Hp} {s : Shared}
theorem qCc (I : Inv X pins σ H s) : Inv (pnX X (X.pn ++ pins)) [] σ H s := by
  obtain ⟨a1, a2, a3, a4, a5, a6, a7, a8, a9, a10, a11, a12, a13, a14, a15, a16, a17, a18⟩ := I.ok
  exact ⟨⟨a1, a2, a3, a4, a5, a6, a7, a8, a9, a10, a11, a12, a13, a14, a15, a16, a17, a18⟩, I.os, I.bare, I.base, I.loc, I.cell, I.free, I.freeC, fun p hp => I.pin p (by have z : p ∈ (X.pn ++ pins) ++ [] := hp; simpa using z), I.hok, I.len⟩
theorem xU (I : Inv (pnX X (X.pn ++ pins)) [] σ H s) : Inv X pins σ H s := by
  obtain ⟨a1, a2, a3, a4, a5, a6, a7, a8, a9, a10, a11, a12, a13, a14, a15, a16, a17, a18⟩ := I.ok
  exact ⟨⟨a1, a2, a3, a4, a5, a6, a7, a8, a9, a10, a11, a12, a13, a14, a15, a16, a17, a18⟩, I.os, I.bare, I.base, I.loc, I.cell, I.free, I.freeC, fun p hp => I.pin p (by show p ∈ (X.pn ++ pins) ++ []; simpa using hp), I.hok, I.len⟩
theorem vn {ea : Addr} (I : Inv X pins σ H s) : Inv (hdX X ea) pins σ H s := by
  obtain ⟨a1, a2, a3, a4, a5, a6, a7, a8, a9, a10, a11, a12, a13, a14, a15, a16, a17, a18⟩ := I.ok
  exact ⟨⟨a1, a2, a3, a4, a5, a6, a7, a8, fun h => absurd (show false = true from h) Bool.false_ne_true, a10, a11, a12, a13, a14, a15, a16, a17, a18⟩, I.os, I.bare, I.base, I.loc, I.cell, I.free, I.freeC, I.pin, I.hok, I.len⟩
theorem kL {ea : Addr} (I : Inv (hdX X ea) pins σ H s) (hd : X.calm = true → X.A.handled = none) : Inv X pins σ H s := by
  obtain ⟨a1, a2, a3, a4, a5, a6, a7, a8, a9, a10, a11, a12, a13, a14, a15, a16, a17, a18⟩ := I.ok
  exact ⟨⟨a1, a2, a3, a4, a5, a6, a7, a8, hd, a10, a11, a12, a13, a14, a15, a16, a17, a18⟩, I.os, I.bare, I.base, I.loc, I.cell, I.free, I.freeC, I.pin, I.hok, I.len⟩
def vW (e : Addr) (C : Value) : HO := .ext fun h => ∃ (vs : Array Value) (sl : Array (Option Value)), h.get? e = some { cls := C, dict := none, data := .fields vs, slots := sl }
theorem kO {a : Addr} {C : Value} {hd : Option Addr} (I : Inv X [] σ H s) (_ : X.ex = []) (n : wO X.s₀.heap H X.pn a) (r : xY s.heap a C hd) : Inv X [] σ (upd H a (vW a C)) s := by
  obtain ⟨vs, sl, q, _⟩ := r
  have B := I.base
  have ne : ∀ b o, X.s₀.heap.get? b = some o → b ≠ a := fun b o w z => by rw [z, n.1] at w; cases w
  refine ⟨I.ok, I.os, I.bare, ⟨B.keep, B.slot, fun b o w z hx => ?_, B.there, fun b xs w => ?_, fun b o u w => ?_, fun b ps w => ?_⟩, I.loc, I.cell, ?_, fun y c e => ?_, fun p hp => ?_, fun b u w => ?_, I.len⟩
  · rw [qP (ne b o w)]; exact B.free b o w z hx
  · have z := B.tups b xs w
    rw [qP (qL z n.2.1)]; exact z
  · have z := B.frzs b o u w
    rw [qP (qL z n.2.1)]; exact z
  · obtain ⟨more, z⟩ := B.tbls b ps w
    exact ⟨more, by rw [qP (qL z n.2.1)]; exact z⟩
  · obtain ⟨m, ⟨o, es, ep, ho, hd', _⟩, _⟩ := I.loc
    rw [qP (fun z => by rw [z, q] at ho; cases ho; cases hd')]
    exact I.free
  · obtain ⟨v, o, ho, hd'⟩ := I.cell y c e
    rw [qP (fun z => by rw [z, q] at ho; cases ho; cases hd')]
    exact I.freeC y c e
  · obtain ⟨w1, w2, w3⟩ := I.pin p hp
    have hp' : p ∈ X.pn := by simpa using hp
    rw [qP (n.2.2 p hp')]
    exact ⟨w1, w2, w3⟩
  · by_cases hb : b = a
    · subst hb
      rw [qD] at w
      cases w
      refine ⟨⟨vs, sl, q⟩, ⟨_, q⟩, fun h1 h2 z k => ?_⟩
      obtain ⟨vs', sl', z⟩ := z
      exact ⟨vs', sl', k _ z⟩
    · rw [qP hb] at w
      exact (I.hok b u w).stay (fun _ _ _ z => z) (fun c z => by rw [qP (qL z n.2.1)]; exact z) fun c xs z => by rw [qP (qL z n.2.1)]; exact z
theorem j7 {M : Model} {A : Around} {E : Value → Shared → Prop} {i : Nat} {n : Str} {pos : Pos} {Q : Unit → Shared → Prop} (I : Inv X pins σ H s) (hN : X.N.Nodup) (hi : X.N[i]? = some n) (hl : X.env.scope.names.lookup n = some .local)
    (h : ∀ s', Inv X pins (σ.set i none) H s' → Q () s') : wpAny M A (do bindName X.env n .none; unbindBehindTheSuite X.env n pos) Q E s := by
  refine wpAny_bind (wpAny_bindName (jm (v := .non) I hN hi (.inl hl) rfl (fun s1 I1 => ?_) (.inr hl)))
  unfold unbindBehindTheSuite
  refine wpAny_onRaise ?_
  have hcls : (X.env.scope.kind == .class || (X.env.scope.kind == .module && X.env.locals != X.env.globals)) = false := by rw [I1.ok.kind]; rfl
  have hiσ : i < σ.length := by rw [I.len]; exact (List.getElem?_eq_some_iff.mp hi).1
  obtain ⟨m, hn, hlk⟩ := I1.loc
  obtain ⟨u, r, lk⟩ := hlk i n .non hi (by rw [List.getElem?_set_self hiσ]) (.inl hl)
  have hm : m n = some u := by
    rcases lk with ⟨_, z⟩ | ⟨z, _⟩
    · exact z
    · have hl' : X.env.kindOf n = some .local := hl
      rw [hl'] at z
      rcases z with z | z <;> cases z
  obtain ⟨oL, es, ep, hoL, hdL, _⟩ := id hn
  refine wpAny_unbindName_local hl hn hm hcls fun h' u' hn' hs => h _ ?_
  have B := I1.base
  have neL : ∀ b o, X.s₀.heap.get? b = some o → b ≠ X.env.locals := fun b o e => Nat.ne_of_lt (Nat.lt_of_lt_of_le (Heap.lt_size e) I1.ok.above)
  refine ⟨I1.ok, I1.os, I1.bare, ⟨fun b o e n hb hx => (hs.2 b (neL b o e)).trans (B.keep b o e n hb hx), fun b o e n hb hx => ?_, B.free, fun b o e hx => ?_, B.tups, B.frzs, B.tbls⟩, ⟨_, hn', fun j y v e1 e2 e3 => ?_⟩, fun y c e => ?_, I1.free, I1.freeC, fun p hp => ?_, fun b ob e => ?_, ?_⟩
  · obtain ⟨sl, z⟩ := B.slot b o e n hb hx
    exact ⟨sl, (hs.2 b (neL b o e)).trans z⟩
  · obtain ⟨o', z⟩ := B.there b o e hx
    exact ⟨o', (hs.2 b (neL b o e)).trans z⟩
  · have hj : j ≠ i := fun z => by
      subst z
      rw [List.getElem?_set_self hiσ] at e2
      cases e2
    rw [List.getElem?_set_ne (Ne.symm hj)] at e2
    obtain ⟨u2, r2, l2⟩ := hlk j y v e1 (by rw [List.getElem?_set_ne (Ne.symm hj)]; exact e2) e3
    refine ⟨u2, r2, ?_⟩
    rcases l2 with ⟨k, z⟩ | ⟨k, c, ec, z⟩
    · refine .inl ⟨k, ?_⟩
      have : y ≠ n := fun w => hj (zR hN e1 (w ▸ hi))
      simp [this, z]
    · exact .inr ⟨k, c, ec, z.sameBut hs (I1.cne y c ec)⟩
  · obtain ⟨w', z⟩ := I1.cell y c e
    exact ⟨w', z.sameBut hs (I1.cne y c e)⟩
  · obtain ⟨e, n, ne, nf, d⟩ := I1.pin p hp
    exact ⟨(hs.2 p.1 ne).trans e, n, ne, nf, d⟩
  · refine (I1.hok b ob e).stay (fun c w' hc q => (hs.2 c fun z => ?_).trans q) (fun _ q => q) fun _ _ q => q
    have fr := I1.free
    rcases hc with hc | hc
    · rw [← hc, z, fr] at e; cases e
    · rw [z, fr] at hc; cases hc
  · have := I1.len
    simpa using this
end
def qA5 (D : wX) (i : Option Nat) : wX :=
  let f : (L2.St → Hp → Prop) → L2.St → Hp → Prop := fun q σ H => match i with | some i => q (σ.set i none) H | none => q σ H
  { nx := f D.nx, rt := D.rt, bk := f D.bk, ct := f D.ct }
def qCp (i : Option Nat) (ea : Addr) (σ : L2.St) : L2.St := match i with | some i => σ.set i (some (.ref ea)) | none => σ
def qD8 (K : PySem.W.Frag) (Ex : Value → Hp → Prop) (C : Addr) (i : Option Nat) (tb ts : TS) : TS := fun D σ H => tb D σ H ∧ ∀ (ea : Addr) (B : Value) (σ' : L2.St) (H' : Hp), Ex B H' → H' ea = none → σ'.length = σ.length →
  PySem.W.exmOne K B (.ref C) = some true ∧ ts (qA5 D i) (qCp i ea σ') (upd H' ea (vW ea B))
inductive wK (X : Cx) : Option Str → Option Nat → Prop where
  | none : wK X none none
  | some {n : Str} {i : Nat} (hi : X.N[i]? = some n) (hl : X.env.scope.names.lookup n = some .local) : wK X (some n) (some i)
theorem qCg {X : Cx} {body : List Stmt} {b₀ : Stmt} {suite : List Stmt} {x : Str} {C : Addr} {nm : Option Str} {i : Option Nat} {np hpos pos : Pos} {tb ts : TS} (Ex : Value → Hp → Prop)
    (hcl : wK X nm i) (hN : X.N.Nodup) (hg : Gl X x) (hm : X.mg x = some (.ref C))
    (hb : ∀ l, PSs ((pnX X l).wish (XE (pnX X l) Ex)) body tb) (hs : ∀ l ea, PSs (hdX (pnX X l) ea).nox (b₀ :: suite) ts)
    (hstk : X.stack = X.env :: X.outer := by rfl) (hfr : X.env.frame = some X.env.locals := by rfl) (hex : X.ex = [] := by rfl) (hdb : (x == ("__debug__" : Str)) = false := by decide) :
    PS X (.Try body [.ExceptHandler (some (.Name x np)) nm (b₀ :: suite) hpos] [] [] pos) (qD8 X.K Ex C i tb ts) := by
  rintro pins s σ H D I ⟨h1, h2⟩
  have I0 := qCc I
  refine wpAny_Try_except (wpAny_mono (hb (X.pn ++ pins) [] s σ H D (I0.wish _) h1) (fun f s1 q => ?_) fun e s1 q => ?_)
  · have q := q.unwish
    cases f with
    | next =>
      obtain ⟨σ', H', J, z⟩ := q
      exact wpAny_execs_nil ⟨σ', H', xU J, z⟩
    | brk =>
      obtain ⟨σ', H', J, z⟩ := q
      exact ⟨σ', H', xU J, z⟩
    | cont =>
      obtain ⟨σ', H', J, z⟩ := q
      exact ⟨σ', H', xU J, z⟩
    | ret u =>
      obtain ⟨v, σ', H', J, r, z⟩ := q
      exact ⟨v, σ', H', xU J, r, z⟩
  · obtain ⟨ea, B, σ', H', rfl, I1, ⟨n1, hd, r, n3⟩, ex⟩ := q
    have hlen : σ'.length = σ.length := I1.len.trans I.len.symm
    obtain ⟨hx, ht⟩ := h2 ea B σ' H' ex n1.2.1 hlen
    have fr : X.A.frames = some (X.env :: X.outer) := by rw [← hstk]; exact I.ok.frames
    have ff : s1.heap.FunFrames X.base (X.env :: X.outer) := by
      have z := I1.stack
      rw [show (pnX X (X.pn ++ pins)).stack = X.env :: X.outer from hstk] at z
      exact z
    refine wE fr ff hfr r fun h' N' => ?_
    have N' : Noted (frs X.stack) ea hd B s1.heap h' := by rw [hstk]; exact N'
    obtain ⟨I2, n1, hd2, r2, n3⟩ := j9 I1 hex r n1 n3 N'
    refine wpAny_handleBy_cons (codeAny_handlers_test (zL (X := hdX (pnX X (X.pn ++ pins)) ea) (vn I2) hg hm ?_ hdb)) (by intro z; cases z)
    have LT : PySem.W.Looks (model X.prog X.w) h' (typeOf (.ref ea)) B := by
      obtain ⟨vs, sl, qe, _⟩ := r2
      exact (PySem.W.Looks.ld qe).andThen .now
    refine (PySem.W.exm_one (M := model X.prog X.w) I2.kIn LT hx).here ?_
    show codeAny _ _ _ _ _
    obtain ⟨T, rfl, r3⟩ : ∃ T, hd2 = some T ∧ xY h' ea B (some T) := by
      obtain ⟨T, _, _⟩ := N'.ent
      cases hd2 with
      | some T => exact ⟨T, rfl, r2⟩
      | none =>
        obtain ⟨T, _, rT⟩ := N'.ent
        obtain ⟨vs, sl, q1, q2⟩ := r2
        obtain ⟨vs', sl', q1', q2', _⟩ := rT
        rw [q1] at q1'
        cases q1'
        rw [q2] at q2'
        cases q2'
    have run : ∀ (s4 : Shared) (σ4 : L2.St) (Q : Flow → Shared → Prop) (E : Value → Shared → Prop), Inv (hdX (pnX X (X.pn ++ pins)) ea) [] σ4 (upd H' ea (vW ea B)) s4 → ts (qA5 D i) σ4 (upd H' ea (vW ea B)) →
        (∀ f s5, SP (hdX (pnX X (X.pn ++ pins)) ea) [] (qA5 D i) f s5 → Q f s5) → wpAny (model X.prog X.w) (X.A.mark (some (.ref ea))) (execs (b₀ :: suite) X.env) Q E s4 := fun s4 σ4 Q E I4 z k =>
      wpAny_mono (hs (X.pn ++ pins) ea [] s4 σ4 _ _ (I4.wish _) z) (fun f s5 q => k f s5 q.unwish) fun _ _ z => z.elim
    have hdn : (pnX X (X.pn ++ pins)).calm = true → (pnX X (X.pn ++ pins)).A.handled = none := I2.ok.hd
    cases hcl with
    | none =>
      refine codeAny_handlers_suite (kT r3 fun h3 N3 => ?_)
      obtain ⟨I3, n1, hd3, r4, n3⟩ := j9 I2 hex r3 n1 n3 (N3 _)
      refine run _ _ _ _ (vn (kO I3 hex n1 r4)) ht fun f s5 q => ?_
      cases f with
      | next => obtain ⟨σ5, H5, J, z⟩ := q; exact ⟨σ5, H5, xU (kL J hdn), z⟩
      | brk => obtain ⟨σ5, H5, J, z⟩ := q; exact ⟨σ5, H5, xU (kL J hdn), z⟩
      | cont => obtain ⟨σ5, H5, J, z⟩ := q; exact ⟨σ5, H5, xU (kL J hdn), z⟩
      | ret u => obtain ⟨v, σ5, H5, J, rv, z⟩ := q; exact ⟨v, σ5, H5, xU (kL J hdn), rv, z⟩
    | some hi hl =>
      refine codeAny_handlers_suite_as (kT r3 fun h3 N3 => ?_)
      obtain ⟨I3, n1, hd3, r4, n3⟩ := j9 I2 hex r3 n1 n3 (N3 _)
      refine jm (X := hdX (pnX X (X.pn ++ pins)) ea) (v := .ref ea) (vn (kO I3 hex n1 r4)) hN hi (.inl hl) rfl (fun s4 I4 => ?_) (.inr hl)
      refine run _ _ _ _ I4 ht fun f s5 q => ?_
      cases f with
      | next => obtain ⟨σ5, H5, J, z⟩ := q; exact j7 (X := pnX X (X.pn ++ pins)) (kL J hdn) hN hi hl fun s6 J6 => ⟨_, H5, xU J6, z⟩
      | brk => obtain ⟨σ5, H5, J, z⟩ := q; exact j7 (X := pnX X (X.pn ++ pins)) (kL J hdn) hN hi hl fun s6 J6 => ⟨_, H5, xU J6, z⟩
      | cont => obtain ⟨σ5, H5, J, z⟩ := q; exact j7 (X := pnX X (X.pn ++ pins)) (kL J hdn) hN hi hl fun s6 J6 => ⟨_, H5, xU J6, z⟩
      | ret u => obtain ⟨v, σ5, H5, J, rv, z⟩ := q; exact j7 (X := pnX X (X.pn ++ pins)) (kL J hdn) hN hi hl fun s6 J6 => ⟨v, _, H5, xU J6, rv, z⟩
end L3
set_option maxHeartbeats 4000000
set_option maxRecDepth 100000
namespace L3
open PySem PySem.Spec PySem.Calls PyProof.Rows PySem.W
section
variable {prog : Program} {w : World} {A : Around} {E : Value → Shared → Prop} {K : Frag} {h : Heap} {g : Array GenState} {d : Drawn} {t : Nat} {os : OsState} {a D : Addr} {ox : Obj}
structure ExcK (K : Frag) (D : Addr) : Prop where
  ga : findIn K (.ref D) "__getattribute__" = some (some (.builtin "BaseException.__getattribute__"))
  gt : findIn K (.ref D) "__getattr__" = some none
  ca : findIn K (.ref D) "__class__" = some (some (.builtin "object.__class__"))
  sg : specialIn K (.builtin "object.__class__") "__get__" = some (some (.builtin "getset_descriptor.__get__"))
  tk : takesIn K (.builtin "object.__class__") = some true
  mo : mroIn K D (.type "object") = some true
  mb : mroIn K D (.type "BaseException") = some true
theorem vy {tk : Tok} {Q : Fin → Shared → Prop} (c : ExcK K D) (X : K.In h) (I : InstAt h a ox D none) (hq : Q (.done (.ret (.ref D))) ⟨h, g, d, t, os⟩) :
    wpAny (model prog w) A (Builtin.«object.__getattribute__» ⟨[.ref a, .str "__class__" tk], []⟩) Q E ⟨h, g, d, t, os⟩ := by
  have L0 := I.type (M := model prog w)
  have L1 := looks_findIn (M := model prog w) X c.ca
  have hf : findObj K D none "__class__" = some (.bind (.builtin "getset_descriptor.__get__") (.builtin "object.__class__")) := by
    have mo := c.mo
    unfold mroIn at mo
    unfold findObj
    cases e : clsIn K D with
    | none => rw [e] at mo; cases mo
    | some cd =>
      simp only [Option.bind_some, c.ca, c.sg, c.tk]
  have L2 := looks_find (M := model prog w) X I hf
  unfold Builtin.«object.__getattribute__»
  repeat (any_goals (first | assumption | (with_reducible refine wpAny_bind (L0.at ?_)) | (with_reducible refine wpAny_bind (L2.at ?_)) | wp_step))
  refine class_get (s := ⟨h, g, d, t, os⟩) (ox := ox) (od := none) X I c.mo ?_
  exact wpAny_pure hq
theorem qAc {tk : Tok} {R : Result → Shared → Prop} (c : ExcK K D) (X : K.In h) (I : InstAt h a ox D none) (hq : R (.ok (.ret (.ref D))) ⟨h, g, d, t, os⟩) :
    codeAny (model prog w) A (.call (.builtin "BaseException.__getattribute__") ⟨[.ref a, .str "__class__" tk], []⟩) R ⟨h, g, d, t, os⟩ := by
  refine codeAny_call_builtin F.attr_ValueError.ga.plain F.entry_bexc_ga ?_
  have bkd : builtinKind "BaseException.__getattribute__" = some .slot := by decide +kernel
  have hsp : splitId "BaseException.__getattribute__" = some ("BaseException", "__getattribute__") := by decide +kernel
  have ha := F.args_bexc_ga (.ref a) (.str "__class__" tk)
  have L0 := I.type (M := model prog w)
  have L1 : Looks (model prog w) h (isInstance (.ref a) (.type "BaseException")) true := L0.andThen (looks_mroIn X c.mb)
  simp only [checkBuiltinCall, bkd, hsp]
  refine wpAny_bind (L1.at ?_)
  repeat (first | assumption | (with_reducible refine vy c X I ?_) | exact hq | wp_step)
theorem qCj {tk : Tok} {fill : Bool} {Q : Value → Shared → Prop} (c : ExcK K D) (X : K.In h) (I : InstAt h a ox D none) (hq : Q (.ref D) ⟨h, g, d, t, os⟩) :
    wpAny (model prog w) A (getAttrBy (.ref a) (.str "__class__" tk) fill) Q E ⟨h, g, d, t, os⟩ := by
  have L0 := I.type (M := model prog w)
  have L1 := looks_findIn (M := model prog w) X c.ga
  have L2 := looks_findIn (M := model prog w) X c.gt
  have f3 := F.attr_ValueError.ga.bind (.ref a)
  have no2 : (Value.builtin "BaseException.__getattribute__" == Value.builtin "object.__getattribute__") = false := by decide +kernel
  have no1 : (onTheHeap (Value.ref D) && Value.builtin "BaseException.__getattribute__" == Value.builtin "object.__getattribute__") = false := by rw [no2]; rfl
  repeat (any_goals (first | assumption | (with_reducible refine wpAny_bind (L0.at ?_)) | (with_reducible refine wpAny_bind (L1.at ?_)) | (with_reducible refine wpAny_bind (L2.at ?_)) | (with_reducible refine L1.at ?_) | (with_reducible refine L2.at ?_) | wp_step))
  refine qAc c X I ?_
  show wpAny _ _ (handedOut (.ref D)) Q E _
  exact wpAny_pure hq
theorem wp {Q : Option Value → Shared → Prop} (c : ExcK K D) (X : K.In h) (I : InstAt h a ox D none) (hq : Q (some (.ref D)) ⟨h, g, d, t + 1, os⟩) : wpAny (model prog w) A (getAttr? (.ref a) "__class__") Q E ⟨h, g, d, t, os⟩ := by
  unfold getAttr? getAttrBy?
  repeat (any_goals (first | assumption | with_reducible refine qCj c X I ?_ | wp_step))
theorem vE (c : ExcK K D) : KitX K (.ref a) (.ref D) (fun h => InstAt h a ox D none) where
  ty := fun _ _ _ I => I.type
  it := fun _ _ X _ => by
    have mo := c.mo
    unfold mroIn clsIn at mo
    split at mo
    · rename_i kls kdi kcd ksl kob
      intro A' Q' E' s' kp wq
      unfold isType loadHead
      exact wpAny_bind (wpAny_loadPart (kp _ _ (X _ _ kob)) (wpAny_pure wq))
    · cases mo
  ne := fun h tp dd its n sl X htp => by
    have mo := c.mo
    refine Bool.eq_false_iff.mpr fun same => ?_
    have here : D = tp := Value.ref.inj (beq_iff_eq.mp same)
    subst here
    unfold mroIn clsIn at mo
    split at mo
    · rename_i kls kdi kcd ksl kob
      have z := (X _ _ kob).symm.trans htp
      cases z
    · cases mo
  ca := fun {_ _ _ _ _ s} X I k => by
    obtain ⟨h, g, d, t, os⟩ := s
    exact wp c X I k
end
end L3
namespace L3
open PySem PySem.Spec PyProof.Rows L2
theorem z0 {X : Cx} : CallR X (.builtin "isinstance") (fun xs H Q => ∃ e D c b, xs = [.ref e, c] ∧ H e = some (vW e (.ref D)) ∧ ExcK X.K D ∧
    ((∃ n, c = .ty n ∧ PySem.W.kitOne X.K (.ref D) (.type n) = some b) ∨ ∃ a, c = .ref a ∧ PySem.W.kitOne X.K (.ref D) (.ref a) = some b) ∧ Q (.bl b) H) := by
  intro pins s σ H xs us Q I r h
  obtain ⟨e, D, c, b, rfl, he, hc, hk, q⟩ := h
  obtain ⟨u, u', rfl, rx, rc⟩ := qBd r
  cases rx
  obtain ⟨⟨vs, sl, qe⟩, _⟩ := I.hok e _ he
  have J : PySem.W.InstAt s.heap e { cls := .ref D, dict := none, data := .fields vs, slots := sl } D none := ⟨qe, rfl, rfl, trivial⟩
  rcases hk with ⟨n, rfl, hk⟩ | ⟨a, rfl, hk⟩
  · cases rc
    exact PySem.W.kia_one (vE hc) I.kIn J hk (fun z => nomatch z) fun tk => ⟨.bl b, H, I.tok _, rfl, q⟩
  · cases rc
    exact PySem.W.kia_one (vE hc) I.kIn J hk (fun z => nomatch z) fun tk => ⟨.bl b, H, I.tok _, rfl, q⟩
abbrev qBy := vW
end L3
set_option maxHeartbeats 4000000
namespace L3
open PySem PySem.Spec PyProof.Rows L2
section
variable {X : Cx}
theorem qAe {bs : List Bool} {its : List Value} {P : Program} {w : World} {A : Around} (r : Vals (bs.map V.bl) its) : TruthOf P w A (fun i v => its.toArray[i]? = some v) (fun i => (bs[i]?).getD false) := by
  intro i v s Q E hv hq
  have hv' : its[i]? = some v := by simpa using hv
  have hl := r.length
  have hi : i < bs.length := by
    have := (List.getElem?_eq_some_iff.mp hv').1
    rw [List.length_map] at hl
    omega
  obtain ⟨u, e1, q1⟩ := r.get (i := i) (x := .bl bs[i]) (by rw [List.getElem?_map, List.getElem?_eq_getElem hi]; rfl)
  rw [hv'] at e1
  cases e1
  cases q1
  have e : (bs[i]?).getD false = bs[i] := by rw [List.getElem?_eq_getElem hi]; rfl
  have hq' : Q ((bs[i]?).getD false) s := hq
  rw [e] at hq'
  exact wpAny_truthy_bool hq'
theorem v9 (bs : List Bool) : (List.range bs.length).all (fun i => (bs[i]?).getD false) = bs.all id := by
  rw [Bool.eq_iff_iff, List.all_eq_true, List.all_eq_true]
  constructor
  · intro h x hx
    obtain ⟨i, hi, e⟩ := List.mem_iff_getElem.mp hx
    have := h i (by simpa using hi)
    rw [List.getElem?_eq_getElem hi, e] at this
    exact this
  · intro h i hi
    have hi : i < bs.length := by simpa using hi
    rw [List.getElem?_eq_getElem hi]
    exact h _ (List.getElem_mem hi)
theorem x5 (hc : X.calm = true) : CallR X (.builtin "all") (fun xs H Q => ∃ (p : Addr) (bs : List Bool), xs = [.ref p] ∧ SqL X.K H p (bs.map V.bl) ∧ Q (.bl (bs.all id)) H) := by
  intro pins s σ H xs us Q I r h
  obtain ⟨p, bs, rfl, hq, q⟩ := h
  obtain ⟨u, rfl, rx⟩ := wr r
  cases rx
  obtain ⟨its, rv, pl, hz⟩ := I.list hq
  have hp : p ≠ s.heap.objs.size := by
    obtain ⟨o, n, e, _⟩ := pl
    exact Nat.ne_of_lt (Heap.lt_size e)
  have hh : X.A.in1.handled = none := I.ok.hd hc
  have hl : its.toArray.size = bs.length := by rw [List.size_toArray, ← rv.length, List.length_map]
  refine call_all_walk (wpAny_pyIter_list pl.isList ?_)
  refine ⟨s.heap.objs.size, _, _, _, _, _, _, rfl, Walks.list hh _ p hp its.toArray, ⟨⟨_, Heap.get?_push_size _ rfl, rfl, rfl⟩, pl.isList.at fun o e => Heap.get?_push_of_some _ e⟩, qAe rv, fun h' tk hk => ?_⟩
  rw [hl, v9]
  refine ⟨.bl _, H, I.kept fun b o e => hk b o (fun z => ?_) (Heap.get?_push_of_some _ e), rfl, q⟩
  have z' : b = s.heap.objs.size := by simpa using z
  exact absurd (Heap.lt_size e) (by rw [z']; exact Nat.lt_irrefl _)
end
theorem zN {X : Cx} {K : PySem.W.Frag} (h : X.K = K) : CallR X (.builtin "isinstance") (fun xs H Q => ∃ e D c b, xs = [.ref e, c] ∧ H e = some (qBy e (.ref D)) ∧ ExcK K D ∧
    ((∃ n, c = .ty n ∧ PySem.W.kitOne K (.ref D) (.type n) = some b) ∨ ∃ a, c = .ref a ∧ PySem.W.kitOne K (.ref D) (.ref a) = some b) ∧ Q (.bl b) H) := h ▸ z0
end L3
namespace L3
open PySem PySem.Spec PyProof.Rows L2
end L3
set_option maxHeartbeats 4000000
namespace L3
open PySem PySem.Spec PyProof.Rows L2
section
variable {X : Cx}
end
end L3
set_option maxHeartbeats 4000000
namespace L3
open PySem PySem.Spec PyProof.Rows L2
inductive D where
  | leaf (v : V)
  | tup (xs : List D)
  | lst (xs : List D)
mutual
def Rep (K : PySem.W.Frag) (H : Hp) : D → V → Prop
  | .leaf v, x => x = v ∧ jv v = true
  | .tup ds, x => ∃ p xs, x = .ref p ∧ SqT K H p xs ∧ Reps K H ds xs
  | .lst ds, x => ∃ p xs, x = .ref p ∧ SqL K H p xs ∧ Reps K H ds xs
def Reps (K : PySem.W.Frag) (H : Hp) : List D → List V → Prop
  | [], [] => True
  | d :: ds, x :: xs => Rep K H d x ∧ Reps K H ds xs
  | _, _ => False
end
mutual
def eqD : D → D → Bool
  | .leaf v, .leaf w => eqV v w
  | .tup xs, .tup ys => xN xs ys
  | .lst xs, .lst ys => xN xs ys
  | _, _ => false
def xN : List D → List D → Bool
  | [], [] => true
  | x :: xs, y :: ys => eqD x y && xN xs ys
  | _, _ => false
end
mutual
def dep : D → Nat
  | .leaf _ => 0
  | .tup xs => zm xs + 1
  | .lst xs => zm xs + 1
def zm : List D → Nat
  | [] => 0
  | x :: xs => max (dep x) (zm xs)
end
theorem Reps.length {K : PySem.W.Frag} {H : Hp} : ∀ {ds : List D} {xs : List V}, Reps K H ds xs → ds.length = xs.length
  | [], [], _ => rfl
  | _ :: _, _ :: _, h => by
    unfold Reps at h
    rw [List.length_cons, List.length_cons, h.2.length]
  | [], _ :: _, h => by unfold Reps at h; exact h.elim
  | _ :: _, [], h => by unfold Reps at h; exact h.elim
theorem wy {v : V} (h : jv v = true) : eqV v v = true := by
  cases v <;> simp_all [jv, eqV]
theorem xX : ∀ {xs ys : List D}, xN xs ys = true → xs.length = ys.length
  | [], [], _ => rfl
  | x :: xs, y :: ys, h => by
    unfold xN at h
    rw [Bool.and_eq_true] at h
    rw [List.length_cons, List.length_cons, xX h.2]
  | [], _ :: _, h => by simp [xN] at h
  | _ :: _, [], h => by simp [xN] at h
def itE (xs ys : List D) (j : Nat) : Bool := match xs[j]?, ys[j]? with
  | some a, some b => eqD a b
  | _, _ => false
theorem kI : ∀ (xs ys : List D), ((List.range (min xs.length ys.length)).all (itE xs ys) && xs.length == ys.length) = xN xs ys
  | [], [] => by simp [xN]
  | [], y :: ys => by simp [xN]
  | x :: xs, [] => by simp [xN]
  | x :: xs, y :: ys => by
    have ih := kI xs ys
    have e : min (x :: xs).length (y :: ys).length = min xs.length ys.length + 1 := by simp only [List.length_cons]; omega
    rw [e, List.range_succ_eq_map, List.all_cons, List.all_map]
    have e2 : (itE (x :: xs) (y :: ys)) ∘ Nat.succ = itE xs ys := by
      funext j
      simp [itE]
    have e3 : itE (x :: xs) (y :: ys) 0 = eqD x y := by simp [itE]
    have e4 : ((x :: xs).length == (y :: ys).length) = (xs.length == ys.length) := by
      rw [Bool.eq_iff_iff]; simp
    rw [e2, e3, e4, Bool.and_assoc, ih]
    conv => rhs; unfold xN
theorem kq {xs ys : List D} (h : xs.length = ys.length) : (List.range xs.length).all (itE xs ys) = xN xs ys := by
  have := kI xs ys
  rw [← h, Nat.min_self] at this
  simpa using this
section
variable {X : Cx} {pins : List (Addr × Obj)} {σ : L2.St} {H : Hp} {s : Shared}
mutual
theorem zP (I : Inv X pins σ H s) : ∀ (d e : D) {x : V}, Rep X.K H d x → Rep X.K H e x → eqD d e = true
  | .leaf v, .leaf w, x, h1, h2 => by
    unfold Rep at h1 h2
    obtain ⟨rfl, f⟩ := h1
    obtain ⟨rfl, _⟩ := h2
    unfold eqD
    exact wy f
  | .leaf v, .tup ds, x, h1, h2 => by
    unfold Rep at h1 h2
    obtain ⟨rfl, f⟩ := h1
    obtain ⟨p, xs, rfl, _⟩ := h2
    cases f
  | .leaf v, .lst ds, x, h1, h2 => by
    unfold Rep at h1 h2
    obtain ⟨rfl, f⟩ := h1
    obtain ⟨p, xs, rfl, _⟩ := h2
    cases f
  | .tup ds, .leaf w, x, h1, h2 => by
    unfold Rep at h1 h2
    obtain ⟨rfl, f⟩ := h2
    obtain ⟨p, xs, rfl, _⟩ := h1
    cases f
  | .lst ds, .leaf w, x, h1, h2 => by
    unfold Rep at h1 h2
    obtain ⟨rfl, f⟩ := h2
    obtain ⟨p, xs, rfl, _⟩ := h1
    cases f
  | .tup ds, .tup es, x, h1, h2 => by
    unfold Rep at h1 h2
    obtain ⟨p, xs, rfl, t1, r1⟩ := h1
    obtain ⟨q, ys, e, t2, r2⟩ := h2
    cases e
    rw [I.tuple_inj t1 t2] at r1
    unfold eqD
    exact xk I ds es r1 r2
  | .lst ds, .lst es, x, h1, h2 => by
    unfold Rep at h1 h2
    obtain ⟨p, xs, rfl, t1, r1⟩ := h1
    obtain ⟨q, ys, e, t2, r2⟩ := h2
    cases e
    rw [I.list_inj t1 t2] at r1
    unfold eqD
    exact xk I ds es r1 r2
  | .tup ds, .lst es, x, h1, h2 => by
    unfold Rep at h1 h2
    obtain ⟨p, xs, rfl, t1, r1⟩ := h1
    obtain ⟨q, ys, e, t2, r2⟩ := h2
    cases e
    obtain ⟨_, _, i1, _⟩ := I.tuple t1
    obtain ⟨_, _, i2, _⟩ := I.list t2
    exact (SeqAt.ne_of_list_tuple i2.isList i1 rfl).elim
  | .lst ds, .tup es, x, h1, h2 => by
    unfold Rep at h1 h2
    obtain ⟨p, xs, rfl, t1, r1⟩ := h1
    obtain ⟨q, ys, e, t2, r2⟩ := h2
    cases e
    obtain ⟨_, _, i1, _⟩ := I.list t1
    obtain ⟨_, _, i2, _⟩ := I.tuple t2
    exact (SeqAt.ne_of_list_tuple i1.isList i2 rfl).elim
theorem xk (I : Inv X pins σ H s) : ∀ (ds es : List D) {xs : List V}, Reps X.K H ds xs → Reps X.K H es xs → xN ds es = true
  | [], [], _, _, _ => by simp [xN]
  | d :: ds, e :: es, [], h1, _ => by unfold Reps at h1; exact h1.elim
  | d :: ds, e :: es, x :: xs, h1, h2 => by
    unfold Reps at h1 h2
    unfold xN
    rw [zP I d e h1.1 h2.1, xk I ds es h1.2 h2.2]
    rfl
  | [], e :: es, [], _, h2 => by unfold Reps at h2; exact h2.elim
  | [], e :: es, _ :: _, h1, _ => by unfold Reps at h1; exact h1.elim
  | d :: ds, [], [], h1, _ => by unfold Reps at h1; exact h1.elim
  | d :: ds, [], _ :: _, _, h2 => by unfold Reps at h2; exact h2.elim
end
theorem jw {A : Around} {x : V} {u : Value} {p : Addr} {its : Array Value} (f : jv x = true) (r : RelV x u) (hu : A.units < cLine) (h : s.heap.IsTuple p its ∨ s.heap.IsList p its) : SeqAt.EqAt A s u (.ref p) false ∧ SeqAt.EqAt A s (.ref p) u false := by
  cases x with
  | non => cases r; rcases h with h | h <;> exact ⟨by first | exact SeqAt.EqAt.none_tuple h hu | exact SeqAt.EqAt.none_list h hu, by first | exact SeqAt.EqAt.tuple_none h hu | exact SeqAt.EqAt.list_none h hu⟩
  | bl b => cases r; rcases h with h | h <;> exact ⟨by first | exact SeqAt.EqAt.bool_tuple _ h hu | exact SeqAt.EqAt.bool_list _ h hu, by first | exact SeqAt.EqAt.tuple_bool _ h hu | exact SeqAt.EqAt.list_bool _ h hu⟩
  | int i => obtain ⟨t, rfl⟩ := r; rcases h with h | h <;> exact ⟨by first | exact SeqAt.EqAt.int_tuple _ _ h hu | exact SeqAt.EqAt.int_list _ _ h hu, by first | exact SeqAt.EqAt.tuple_int _ _ h hu | exact SeqAt.EqAt.list_int _ _ h hu⟩
  | str i => obtain ⟨t, rfl⟩ := r; rcases h with h | h <;> exact ⟨by first | exact SeqAt.EqAt.str_tuple _ _ h hu | exact SeqAt.EqAt.str_list _ _ h hu, by first | exact SeqAt.EqAt.tuple_str _ _ h hu | exact SeqAt.EqAt.list_str _ _ h hu⟩
  | _ => cases f
theorem Reps.get {K : PySem.W.Frag} {H : Hp} : ∀ {ds : List D} {xs : List V}, Reps K H ds xs → ∀ (j : Nat) (d : D), ds[j]? = some d → ∃ x, xs[j]? = some x ∧ Rep K H d x
  | [], [], _, j, d, e => by simp at e
  | a :: ds, x :: xs, h, 0, d, e => by
    unfold Reps at h
    have : a = d := by simpa using e
    subst this
    exact ⟨x, rfl, h.1⟩
  | a :: ds, x :: xs, h, j + 1, d, e => by
    unfold Reps at h
    exact h.2.get j d (by simpa using e)
  | [], _ :: _, h, _, _, _ => by unfold Reps at h; exact h.elim
  | _ :: _, [], h, _, _, _ => by unfold Reps at h; exact h.elim
theorem zU : ∀ {ds : List D} {j : Nat} {d : D}, ds[j]? = some d → dep d ≤ zm ds
  | a :: ds, 0, d, e => by
    have : a = d := by simpa using e
    subst this
    unfold zm
    exact Nat.le_max_left _ _
  | a :: ds, j + 1, d, e => by
    have := zU (ds := ds) (j := j) (d := d) (by simpa using e)
    unfold zm
    exact Nat.le_trans this (Nat.le_max_right _ _)
  | [], _, _, e => by simp at e
theorem wQ {A : Around} {ds es : List D} {xs ys : List V} {us ws : List Value} (r1 : Reps X.K H ds xs) (r2 : Reps X.K H es ys) (v1 : Vals xs us) (v2 : Vals ys ws)
    (ih : ∀ d e x y u w, d ∈ ds → Rep X.K H d x → Rep X.K H e y → RelV x u → RelV y w → SeqAt.EqAt A s u w (eqD d e)) :
    ∀ j (h1 : j < us.toArray.size) (h2 : j < ws.toArray.size), SeqAt.EqAt A s us.toArray[j] ws.toArray[j] (itE ds es j) := by
  intro j h1 h2
  have l1 := v1.length
  have l2 := v2.length
  have m1 := r1.length
  have m2 := r2.length
  rw [List.size_toArray] at h1 h2
  have g1 : ds[j]? = some ds[j] := List.getElem?_eq_getElem (by omega)
  have g2 : es[j]? = some es[j] := List.getElem?_eq_getElem (by omega)
  obtain ⟨x, ex, rx⟩ := r1.get j _ g1
  obtain ⟨y, ey, ry⟩ := r2.get j _ g2
  obtain ⟨u, eu, qu⟩ := v1.get ex
  obtain ⟨w, ew, qw⟩ := v2.get ey
  have c1 : us.toArray[j] = u := by
    have := (List.getElem?_eq_some_iff.mp eu).2
    simpa using this
  have c2 : ws.toArray[j] = w := by
    have := (List.getElem?_eq_some_iff.mp ew).2
    simpa using this
  have e : itE ds es j = eqD ds[j] es[j] := by unfold itE; rw [g1, g2]
  rw [c1, c2, e]
  exact ih _ _ _ _ _ _ (List.getElem_mem _) rx ry qu qw
theorem qAj (I : Inv X pins σ H s) : ∀ (n : Nat) (A : Around) (d e : D) (x y : V) (u w : Value), dep d ≤ n → A.units + n < cLine → Rep X.K H d x → Rep X.K H e y → RelV x u → RelV y w → SeqAt.EqAt A s u w (eqD d e) := by
  intro n
  induction n with
  | zero =>
    intro A d e x y u w hd hu r1 r2 q1 q2
    cases d with
    | leaf v =>
      unfold Rep at r1
      obtain ⟨rfl, f1⟩ := r1
      cases e with
      | leaf v' =>
        unfold Rep at r2
        obtain ⟨rfl, f2⟩ := r2
        unfold eqD
        exact vG q1 q2 f1 f2
      | tup es =>
        unfold Rep at r2
        obtain ⟨p, ys, rfl, t, _⟩ := r2
        cases q2
        obtain ⟨_, _, i, _⟩ := I.tuple t
        unfold eqD
        exact (jw f1 q1 hu (.inl i)).1
      | lst es =>
        unfold Rep at r2
        obtain ⟨p, ys, rfl, t, _⟩ := r2
        cases q2
        obtain ⟨_, _, i, _⟩ := I.list t
        unfold eqD
        exact (jw f1 q1 hu (.inr i.isList)).1
    | tup ds => unfold dep at hd; omega
    | lst ds => unfold dep at hd; omega
  | succ n ih =>
    intro A d e x y u w hd hu r1 r2 q1 q2
    have hu0 : A.units < cLine := by omega
    have hu1 : A.in1.units + n < cLine := by show A.units + 1 + n < cLine; omega
    cases d with
    | leaf v =>
      unfold Rep at r1
      obtain ⟨rfl, f1⟩ := r1
      cases e with
      | leaf v' =>
        unfold Rep at r2
        obtain ⟨rfl, f2⟩ := r2
        unfold eqD
        exact vG q1 q2 f1 f2
      | tup es =>
        unfold Rep at r2
        obtain ⟨p, ys, rfl, t, _⟩ := r2
        cases q2
        obtain ⟨_, _, i, _⟩ := I.tuple t
        unfold eqD
        exact (jw f1 q1 hu0 (.inl i)).1
      | lst es =>
        unfold Rep at r2
        obtain ⟨p, ys, rfl, t, _⟩ := r2
        cases q2
        obtain ⟨_, _, i, _⟩ := I.list t
        unfold eqD
        exact (jw f1 q1 hu0 (.inr i.isList)).1
    | tup ds =>
      have r1' := r1
      unfold Rep at r1
      obtain ⟨p, xs, rfl, t1, s1⟩ := r1
      cases q1
      obtain ⟨us, v1, i1, _⟩ := I.tuple t1
      cases e with
      | leaf v' =>
        unfold Rep at r2
        obtain ⟨rfl, f2⟩ := r2
        unfold eqD
        exact (jw f2 q2 hu0 (.inl i1)).2
      | lst es =>
        unfold Rep at r2
        obtain ⟨q, ys, rfl, t2, _⟩ := r2
        cases q2
        obtain ⟨_, _, i2, _⟩ := I.list t2
        unfold eqD
        exact SeqAt.EqAt.tuple_list i1 i2.isList hu0
      | tup es =>
        have r2' := r2
        unfold Rep at r2
        obtain ⟨q, ys, rfl, t2, s2⟩ := r2
        cases q2
        by_cases pq : p = q
        · subst pq
          rw [zP I _ _ r1' r2']
          exact SeqAt.EqAt.same _
        obtain ⟨ws, v2, i2, _⟩ := I.tuple t2
        have hdd : zm ds ≤ n := by unfold dep at hd; omega
        have := SeqAt.EqAt.of_refs pq (SeqAt.RcAt.tuples i1 i2 hu0 (wQ s1 s2 v1 v2 fun d e x y u w hm ra rb qa qb => by
          obtain ⟨j, hj, ej⟩ := List.mem_iff_getElem.mp hm
          have hde : dep d ≤ zm ds := zU (j := j) (by rw [List.getElem?_eq_getElem hj, ej])
          exact ih A.in1 d e x y u w (by omega) hu1 ra rb qa qb))
        rw [List.size_toArray, List.size_toArray, ← v1.length, ← v2.length, ← s1.length, ← s2.length, kI] at this
        unfold eqD
        exact this
    | lst ds =>
      have r1' := r1
      unfold Rep at r1
      obtain ⟨p, xs, rfl, t1, s1⟩ := r1
      cases q1
      obtain ⟨us, v1, i1, _⟩ := I.list t1
      cases e with
      | leaf v' =>
        unfold Rep at r2
        obtain ⟨rfl, f2⟩ := r2
        unfold eqD
        exact (jw f2 q2 hu0 (.inr i1.isList)).2
      | tup es =>
        unfold Rep at r2
        obtain ⟨q, ys, rfl, t2, _⟩ := r2
        cases q2
        obtain ⟨_, _, i2, _⟩ := I.tuple t2
        unfold eqD
        exact SeqAt.EqAt.list_tuple i1.isList i2 hu0
      | lst es =>
        have r2' := r2
        unfold Rep at r2
        obtain ⟨q, ys, rfl, t2, s2⟩ := r2
        cases q2
        by_cases pq : p = q
        · subst pq
          rw [zP I _ _ r1' r2']
          exact SeqAt.EqAt.same _
        obtain ⟨ws, v2, i2, _⟩ := I.list t2
        have hdd : zm ds ≤ n := by unfold dep at hd; omega
        unfold eqD
        by_cases hl : ds.length = es.length
        · have hsz : us.toArray.size = ws.toArray.size := by rw [List.size_toArray, List.size_toArray, ← v1.length, ← v2.length, ← s1.length, ← s2.length]; exact hl
          have := SeqAt.EqAt.of_refs pq (SeqAt.RcAt.lists i1.isList i2.isList hsz hu0 (wQ s1 s2 v1 v2 fun d e x y u w hm ra rb qa qb => by
            obtain ⟨j, hj, ej⟩ := List.mem_iff_getElem.mp hm
            have hde : dep d ≤ zm ds := zU (j := j) (by rw [List.getElem?_eq_getElem hj, ej])
            exact ih A.in1 d e x y u w (by omega) hu1 ra rb qa qb))
          rw [List.size_toArray, ← v1.length, ← s1.length, kq hl] at this
          exact this
        · have hsz : (us.toArray.size != ws.toArray.size) = true := by
            rw [List.size_toArray, List.size_toArray, ← v1.length, ← v2.length, ← s1.length, ← s2.length]
            simpa using hl
          have e : xN ds es = false := by
            rw [Bool.eq_false_iff]
            intro z
            exact hl (xX z)
          rw [e]
          exact SeqAt.EqAt.of_refs pq (SeqAt.RcAt.lists_lengths i1.isList i2.isList hsz hu0)
def kin : D → D → Bool
  | .tup _, .tup _ => true
  | .lst _, .lst _ => true
  | _, _ => false
def qBo (K : PySem.W.Frag) (neg : Bool) : R2 := fun x y H Q => ∃ d e : D, Rep K H d x ∧ Rep K H e y ∧ kin d e = true ∧ dep d ≤ 60 ∧ Q (.bl (if neg then !eqD d e else eqD d e)) H
theorem j2 {A : Around} (I : Inv X pins σ H s) (hu : A.units + 64 < cLine) {ds es : List D} {xs ys : List V} {us ws : List Value} (hd : zm ds ≤ 60) (s1 : Reps X.K H ds xs) (s2 : Reps X.K H es ys) (v1 : Vals xs us) (v2 : Vals ys ws) :
    ∀ j (h1 : j < us.toArray.size) (h2 : j < ws.toArray.size), SeqAt.EqAt A.in1 s us.toArray[j] ws.toArray[j] (itE ds es j) :=
  wQ s1 s2 v1 v2 fun d e x y u w hm ra rb qa qb => by
    obtain ⟨j, hj, ej⟩ := List.mem_iff_getElem.mp hm
    have hde : dep d ≤ zm ds := zU (j := j) (by rw [List.getElem?_eq_getElem hj, ej])
    exact qAj I 60 A.in1 d e x y u w (by omega) (by show A.units + 1 + 60 < cLine; omega) ra rb qa qb
theorem qBw (hu : X.A.units + 64 < cLine) : OpR X (compareOp .Eq) (qBo X.K false) := by
  intro pins s σ H x y v u Q I rx ry h
  obtain ⟨d, e, r1, r2, hk, hd, q⟩ := h
  have hu0 : X.A.units < cLine := by omega
  cases d with
  | leaf a => cases e <;> cases hk
  | tup ds =>
    cases e with
    | leaf b => cases hk
    | lst es => cases hk
    | tup es =>
      unfold Rep at r1 r2
      obtain ⟨p, xs, rfl, t1, s1⟩ := r1
      obtain ⟨p', ys, rfl, t2, s2⟩ := r2
      cases rx; cases ry
      obtain ⟨us, v1, i1, _⟩ := I.tuple t1
      obtain ⟨ws, v2, i2, _⟩ := I.tuple t2
      refine SeqAt.eq_tupleAt i1 i2 hu0 (j2 I hu (by unfold dep at hd; omega) s1 s2 v1 v2) ?_
      rw [List.size_toArray, List.size_toArray, ← v1.length, ← v2.length, ← s1.length, ← s2.length, kI]
      refine ⟨.bl _, H, I, rfl, ?_⟩
      unfold eqD at q
      exact q
  | lst ds =>
    cases e with
    | leaf b => cases hk
    | tup es => cases hk
    | lst es =>
      unfold Rep at r1 r2
      obtain ⟨p, xs, rfl, t1, s1⟩ := r1
      obtain ⟨p', ys, rfl, t2, s2⟩ := r2
      cases rx; cases ry
      obtain ⟨us, v1, i1, _⟩ := I.list t1
      obtain ⟨ws, v2, i2, _⟩ := I.list t2
      unfold eqD at q
      by_cases hl : ds.length = es.length
      · have hsz : us.toArray.size = ws.toArray.size := by rw [List.size_toArray, List.size_toArray, ← v1.length, ← v2.length, ← s1.length, ← s2.length]; exact hl
        refine SeqAt.eq_listAt i1.isList i2.isList hsz hu0 (j2 I hu (by unfold dep at hd; omega) s1 s2 v1 v2) ?_
        rw [List.size_toArray, ← v1.length, ← s1.length, kq hl]
        exact ⟨.bl _, H, I, rfl, q⟩
      · have hsz : (us.toArray.size != ws.toArray.size) = true := by
          rw [List.size_toArray, List.size_toArray, ← v1.length, ← v2.length, ← s1.length, ← s2.length]
          simpa using hl
        have e : xN ds es = false := by
          rw [Bool.eq_false_iff]
          intro z
          exact hl (xX z)
        rw [e] at q
        exact SeqAt.eq_list_lengthsAt i1.isList i2.isList hsz hu0 ⟨.bl _, H, I, rfl, q⟩
theorem vO (hu : X.A.units + 64 < cLine) : OpR X (compareOp .NotEq) (qBo X.K true) := by
  intro pins s σ H x y v u Q I rx ry h
  obtain ⟨d, e, r1, r2, hk, hd, q⟩ := h
  have hu0 : X.A.units < cLine := by omega
  cases d with
  | leaf a => cases e <;> cases hk
  | tup ds =>
    cases e with
    | leaf b => cases hk
    | lst es => cases hk
    | tup es =>
      unfold Rep at r1 r2
      obtain ⟨p, xs, rfl, t1, s1⟩ := r1
      obtain ⟨p', ys, rfl, t2, s2⟩ := r2
      cases rx; cases ry
      obtain ⟨us, v1, i1, _⟩ := I.tuple t1
      obtain ⟨ws, v2, i2, _⟩ := I.tuple t2
      refine SeqAt.RcNeAt.tuples i1 i2 hu0 (j2 I hu (by unfold dep at hd; omega) s1 s2 v1 v2) _ _ _ _ ?_
      rw [List.size_toArray, List.size_toArray, ← v1.length, ← v2.length, ← s1.length, ← s2.length, kI]
      refine ⟨.bl _, H, I, rfl, ?_⟩
      unfold eqD at q
      exact q
  | lst ds =>
    cases e with
    | leaf b => cases hk
    | tup es => cases hk
    | lst es =>
      unfold Rep at r1 r2
      obtain ⟨p, xs, rfl, t1, s1⟩ := r1
      obtain ⟨p', ys, rfl, t2, s2⟩ := r2
      cases rx; cases ry
      obtain ⟨us, v1, i1, _⟩ := I.list t1
      obtain ⟨ws, v2, i2, _⟩ := I.list t2
      unfold eqD at q
      by_cases hl : ds.length = es.length
      · have hsz : us.toArray.size = ws.toArray.size := by rw [List.size_toArray, List.size_toArray, ← v1.length, ← v2.length, ← s1.length, ← s2.length]; exact hl
        refine SeqAt.RcNeAt.lists i1.isList i2.isList hsz hu0 (j2 I hu (by unfold dep at hd; omega) s1 s2 v1 v2) _ _ _ _ ?_
        rw [List.size_toArray, ← v1.length, ← s1.length, kq hl]
        exact ⟨.bl _, H, I, rfl, q⟩
      · have hsz : (us.toArray.size != ws.toArray.size) = true := by
          rw [List.size_toArray, List.size_toArray, ← v1.length, ← v2.length, ← s1.length, ← s2.length]
          simpa using hl
        have e : xN ds es = false := by
          rw [Bool.eq_false_iff]
          intro z
          exact hl (xX z)
        rw [e] at q
        exact SeqAt.RcNeAt.lists_lengths i1.isList i2.isList hsz hu0 _ _ _ _ ⟨.bl _, H, I, rfl, q⟩
end
mutual
theorem Rep.same {K : PySem.W.Frag} {H H' : Hp} (e : Same H H') : ∀ (d : D) {x : V}, Rep K H d x → Rep K H' d x
  | .leaf v, x, h => by unfold Rep at h ⊢; exact h
  | .tup ds, x, h => by
    unfold Rep at h ⊢
    obtain ⟨p, xs, h1, h2, h3⟩ := h
    exact ⟨p, xs, h1, L3.Same.tup e h2, Reps.same e ds h3⟩
  | .lst ds, x, h => by
    unfold Rep at h ⊢
    obtain ⟨p, xs, h1, h2, h3⟩ := h
    exact ⟨p, xs, h1, e.seq h2, Reps.same e ds h3⟩
theorem Reps.same {K : PySem.W.Frag} {H H' : Hp} (e : Same H H') : ∀ (ds : List D) {xs : List V}, Reps K H ds xs → Reps K H' ds xs
  | [], [], h => by unfold Reps; trivial
  | d :: ds, x :: xs, h => by
    unfold Reps at h ⊢
    exact ⟨Rep.same e d h.1, Reps.same e ds h.2⟩
  | [], _ :: _, h => by unfold Reps at h; exact h.elim
  | _ :: _, [], h => by unfold Reps at h; exact h.elim
end
end L3
set_option maxHeartbeats 4000000
namespace L3
open PySem PySem.Spec PyProof.Rows L2
end L3
set_option maxHeartbeats 4000000
namespace L3
open PySem PySem.Spec PyProof.Rows L2
end L3
set_option maxHeartbeats 4000000
namespace L3
open PySem PySem.Spec PyProof.Rows L2
def qDw (t : TT) : TT := fun σ H Q => ∃ R : Bool → Hp → Prop, t σ H R ∧ ∀ b H', R b H' → Q b H'
theorem vD {X : Cx} {e : Expr} {t : TT} (h : PT X e t) : PT X e (qDw t) := by
  rintro pins s σ H Q I ⟨R, ht, hR⟩
  exact thn (h pins s σ H R I ht) fun b s' ⟨H', I', r⟩ => ⟨H', I', hR b H' r⟩
end L3
set_option maxHeartbeats 4000000
namespace L3
open PySem PySem.Spec PyProof.Rows L2
theorem vZ {prog : Program} {w : World} {A : Around} {R : Result → Shared → Prop} {s0 : Shared} {el tg src : Expr} {cs : List Expr} {sco : Scope} {po : Pos} {itv lst : Value} {en : Env} (J : Nat → Shared → Prop)
    (step : ∀ k st, J k st → wpAny (model prog w) A (pyNext itv) (fun got s1 => match got with
      | none => R (.ok .next) s1
      | some u => wpAny (model prog w) A (letOwnedTupleGo tg itv u) (fun _ s1' => wpAny (model prog w) A (assign tg en u) (fun _ s2 =>
          wpAny (model prog w) A (forIn cs true fun c r => if r = true then do let ok ← isTrue c en (eval c en); pure (ForInStep.yield ok) else pure (ForInStep.yield r)) (fun good s3 =>
            if good = true then wpAny (model prog w) A (eval el en) (fun y s4 =>
              wpAny (model prog w) A (call (.builtin "list.append") [lst, y]) (fun _ s5 => ∃ j, j < k ∧ J j s5) (notedBy (model prog w) A en fun x z => R (.error x) z) s4) (notedBy (model prog w) A en fun x z => R (.error x) z) s3
            else ∃ j, j < k ∧ J j s3) (notedBy (model prog w) A en fun x z => R (.error x) z) s2) (notedBy (model prog w) A en fun x z => R (.error x) z) s1') (notedBy (model prog w) A en fun x z => R (.error x) z) s1) (notedBy (model prog w) A en fun x z => R (.error x) z) st)
    (k : Nat) (hJ : J k s0) : codeAny (model prog w) A (.compLoop (.ListComp el [⟨tg, src, cs, 0⟩] sco po) 0 itv lst en) R s0 := by
  refine codeAny_loop rfl J (fun k st hk => ?_) k hJ
  show wpAny _ A ((compTurn (.ListComp el [⟨tg, src, cs, 0⟩] sco po) 0 itv lst en).onRaise (fun x => do noteFrame x en; theTreesLotGoes x)) _ _ st
  refine wpAny_noted ?_
  rw [compTurn_list]
  refine wpAny_bind (wpAny_standAt (wpAny_bind (wpAny_mono (step k st hk) (fun got s1 g1 => ?_) fun _ _ q => q)))
  match got with
  | none => exact wpAny_pure g1
  | some u =>
    refine wpAny_bind (wpAny_mono g1 (fun _ s1' g2 => ?_) fun _ _ q => q)
    refine wpAny_bind (wpAny_mono g2 (fun _ s2 g3 => wpAny_bind (wpAny_mono g3 (fun good s3 g4 => ?_) fun _ _ q => q)) fun _ _ q => q)
    match good with
    | false => exact wpAny_pure ⟨rfl, g4⟩
    | true =>
      refine wpAny_bind (wpAny_bind (wpAny_mono g4 (fun y s4 g5 => ?_) fun _ _ q => q))
      exact wpAny_bind (wpAny_mono g5 (fun _ s5 g6 => wpAny_pure (wpAny_pure ⟨rfl, g6⟩)) fun _ _ q => q)
end L3
set_option maxHeartbeats 4000000
namespace L3
open PySem PySem.Spec PyProof.Rows L2
theorem KV.get {κ : Type} {kvs : List (κ × V)} {vs : List (κ × Value)} (r : KV kvs vs) {i : Nat} {k : κ} {v : V} (h : kvs[i]? = some (k, v)) : ∃ u, vs[i]? = some (k, u) ∧ RelV v u := by
  induction r generalizing i with
  | nil => simp at h
  | @cons p q ps qs hpq _ ih =>
    cases i with
    | zero =>
      have e : p = (k, v) := by simpa using h
      subst e
      obtain ⟨k', u⟩ := q
      have e : k = k' := hpq.1
      subst e
      exact ⟨u, rfl, hpq.2⟩
    | succ i => exact ih (by simpa using h)
section
variable {P : Program} {w : World} {K : PySem.W.Frag}
end
end L3
set_option maxHeartbeats 4000000
namespace L3
open PySem PySem.Spec PyProof.Rows L2
theorem kB {X : Cx} : CallR X (.builtin "isinstance") (fun xs H Q => ∃ (p : Addr) (n t : String) (b : Bool), xs = [.ref p, .ty n] ∧ ((∃ ys, SqT X.K H p ys ∧ t = "tuple") ∨ ∃ kvs : List (Key × V), Rd H p (.dK kvs) ∧ t = "dict") ∧ PySem.W.kitOne X.K (.type t) (.type n) = some b ∧ Q (.bl b) H) := by
  intro pins s σ H xs us Q I r h
  obtain ⟨p, n, t, b, rfl, ht, e, q⟩ := h
  obtain ⟨u, w', rfl, ru, rw'⟩ := qBd r
  cases ru
  have ew : w' = .type n := rw'
  subst ew
  rcases ht with ⟨ys, hy, rfl⟩ | ⟨kvs, hk, rfl⟩
  · obtain ⟨its, _, ⟨o, h1, h2, _⟩, _⟩ := I.tuple hy
    exact PySem.W.kia_one PySem.W.kitx_tuple I.kIn ⟨o, h1, h2⟩ e (fun z => nomatch z) fun tk => ⟨.bl b, H, I.tok tk, rfl, q⟩
  · obtain ⟨_, _, vs, _, o, es, ep, h1, h2, _⟩ := qBl I.hok hk
    exact PySem.W.kia_one PySem.W.kitx_dict I.kIn ⟨o, h1, h2.1⟩ e (fun z => nomatch z) fun tk => ⟨.bl b, H, I.tok tk, rfl, q⟩
def EqIn (P : Program) (w : World) (A : Around) (s : Shared) (y x : Value) : Prop := ∀ (E : Value → Shared → Prop) (Q : Bool → Shared → Prop), Q true s → wpAny (model P w) A (eqBool y x) Q E s
theorem EqIn.rc {P : Program} {w : World} {A : Around} {s : Shared} {l b : Addr} (h : ∀ (E : Value → Shared → Prop) (Q : Value → Shared → Prop), Q (.bool true) s → wpAny (model P w) A (richCompare .Eq (.ref l) (.ref b)) Q E s) : EqIn P w A s (.ref l) (.ref b) := by
  by_cases e : l = b
  · subst e
    exact fun E Q hq => SeqAt.EqAt.same _ P w E Q hq
  · intro E Q hq
    unfold eqBool
    refine wpAny_holding (wpAny_ite_split (fun z => ?_) (fun _ => ?_))
    · have := eq_of_beq z
      injection this with this
      exact absurd this e
    · exact wpAny_bind (h E _ (wpAny_truthy_bool hq))
def DEq (K : PySem.W.Frag) (H : Hp) (a b : Addr) : Prop := ∃ ka kb : List (Key × V), Rd H a (.dK ka) ∧ Rd H b (.dK kb) ∧ ka.length = kb.length ∧ ∀ p ∈ ka, ∃ v d, vX kb p.1 = some v ∧ Rep K H d p.2 ∧ Rep K H d v ∧ eqD d d = true ∧ dep d ≤ 50
section
variable {X : Cx} {pins : List (Addr × Obj)} {σ : L2.St} {H : Hp} {s : Shared}
theorem qA9 (I : Inv X pins σ H s) {A : Around} (hu : A.units + 50 < cLine) {kb : List (Key × V)} {vb : List (Key × Value)} (rb : KV kb vb) : ∀ {ka : List (Key × V)} {va : List (Key × Value)}, KV ka va →
    (∀ p ∈ ka, ∃ v d, vX kb p.1 = some v ∧ Rep X.K H d p.2 ∧ Rep X.K H d v ∧ eqD d d = true ∧ dep d ≤ 50) → PySem.W.KeqHits A s vb va true := by
  intro ka va r
  unfold KV at r
  induction r with
  | nil => exact fun _ => .nil
  | @cons p q ps qs h t ih =>
    intro hp
    obtain ⟨h1, h2⟩ := h
    obtain ⟨v, d, e, r1, r2, g, hd⟩ := hp p (by simp)
    have rv := rb.val p.1
    rw [e] at rv
    cases w : valueAt vb p.1 with
    | none => rw [w] at rv; exact (show False from rv).elim
    | some y =>
      rw [w] at rv
      have rv : RelV v y := rv
      have ea := qAj I 50 A d d p.2 v q.2 y hd hu r1 r2 h2 rv
      rw [g] at ea
      have hq : q = (p.1, q.2) := by rw [h1]
      have k := PySem.W.KeqHits.hit (A := A) (s := s) (kb := vb) (k := p.1) (v := q.2) (e := true) w ea (ih fun x hx => hp x (by simp [hx]))
      rw [hq]
      exact k
theorem DEq.at (I : Inv X pins σ H s) {A : Around} (hu : A.units + 51 < cLine) {a b : Addr} (h : DEq X.K H a b) : EqIn X.prog X.w A s (.ref a) (.ref b) := by
  obtain ⟨ka, kb, ra, rb, hl, hh⟩ := h
  obtain ⟨_, na, va, qa, da⟩ := qBl I.hok ra
  obtain ⟨_, nb, vb, qb, db⟩ := qBl I.hok rb
  refine EqIn.rc fun E Q hq => ?_
  refine PySem.W.keq_eq (r := true) na nb da db (by omega) (fun _ => qA9 I (by show A.units + 1 + 50 < cLine; omega) qb qa hh) ?_
  have e : (va.length == vb.length) = true := by rw [← qa.length, ← qb.length, hl]; simp
  rw [e]
  exact hq
end
end L3
set_option maxHeartbeats 4000000
set_option maxRecDepth 100000
namespace L3
open PySem PySem.Spec PyProof.Rows L2
theorem KV.keys {kvs : List (Key × V)} {vs : List (Key × Value)} (r : KV kvs vs) : vs.map (·.1) = kvs.map (·.1) := by
  induction r with
  | nil => rfl
  | cons h _ ih => rw [List.map_cons, List.map_cons, ih, h.1]
end L3
set_option maxHeartbeats 4000000
namespace L3
open PySem PySem.Spec PyProof.Rows L2
def kx (K : PySem.W.Frag) (js : List Nat) (te : TE) (σ : L2.St) (Q : VK) (J : It) (H1 : Hp) : Prop := ∃ W : Nat → Nat → List V → Hp → Prop, (∃ m, W 0 m [] H1) ∧ ∀ i m acc H2, W i m acc H2 →
  acc.length < sizeLine ∧ ((J.stop i H2 ∧ ∀ D, H2 D = none → Q (.ref D) (upd H2 D (.lst acc))) ∨
    (J.go i H2 ∧ ∀ x H3, J.yld i H2 x H3 → ∃ p va vb vc, x = .ref p ∧ SqT K H3 p [va, vb, vc] ∧ te (some va :: some vb :: some vc :: xR js σ) H3 fun v H5 => ∃ m', m' < m ∧ W (i + 1) m' (acc ++ [v]) H5))
def qAq (K : PySem.W.Frag) (js : List Nat) (wi : TI) (te : TE) : TE := fun σ H Q => wi σ H (kx K js te σ Q)
theorem ve {X : Cx} {elt iter : Expr} {x1 x2 x3 : Str} {px1 px2 px3 : Pos} {tk : Nat} {tpos : Pos} {scope : Scope} {cl : List (Str × Addr)} {pos : Pos} {wi : TI} {te : TE} (ys : List Str) (js : List Nat)
    (hcm : X.calm = true) (hi : PI X (.Tuple [.Name x1 px1, .Name x2 px2, .Name x3 px3] tk tpos) iter wi) (he : ∀ C s H fp, PE (qm X scope cl C (x1 :: x2 :: x3 :: ys) s H fp).nox elt te)
    (hclos : closureFor scope X.env = pure cl := by rfl)
    (hcl : cl.map (fun p => X.env.cells.lookup p.1) = cl.map (fun p => some p.2) := by rfl)
    (hcell : (scope.names.all fun p => p.2 != .cell) = true := by rfl) (hkind : scope.kind = .function := by rfl)
    (hnames : (scope.names.all fun p => p.2 != .local || scope.names.lookup p.1 == some .local) = true := by rfl)
    (hx1 : scope.names.lookup x1 = some .local := by rfl) (hx2 : scope.names.lookup x2 = some .local := by rfl) (hx3 : scope.names.lookup x3 = some .local := by rfl)
    (hhas : ((relabel scope X.env).names.all fun p => (p.2 != .cell && p.2 != .free) || (cl.lookup p.1).isSome) = true := by rfl)
    (hnd : (x1 :: x2 :: x3 :: ys).Nodup := by decide)
    (hjs : js.map (fun j => X.N[j]?) = ys.map some := by rfl)
    (hys : (ys.all fun y => ((relabel scope X.env).names.lookup y == some .cell || (relabel scope X.env).names.lookup y == some .free) && (X.env.scope.names.lookup y == some .cell || X.env.scope.names.lookup y == some .free)) = true := by rfl)
    (hs : ∀ x, foldedSetIterable iter X.env x = pure x := by intro _; rfl)
    {pins : List (Addr × Obj)} {s : Shared} {σ : L2.St} {H : Hp} (R : V → Hp → Prop) (use : Option (Value → Sem Unit)) (Q : Value → Shared → Prop) (I : Inv X pins σ H s) (h : qAq X.K js wi te σ H R)
    (fin : ∀ (v : V) (u : Value) (H' : Hp) (s' : Shared) (C : Addr), Inv X pins σ H' s' → RelV v u → R v H' → (∃ m, s'.heap.Ns C m) → H' C = none → C ≠ X.env.locals → X.s₀.heap.objs.size ≤ C → (∀ y c, X.env.cells.lookup y = some c → c ≠ C) → (∀ p ∈ X.pn ++ pins, p.1 ≠ C) →
      compPost (model X.prog X.w) X.A X.xe use Q u C (.ok .next) s') :
    wpAny (model X.prog X.w) X.A (comprehension (.ListComp elt [⟨.Tuple [.Name x1 px1, .Name x2 px2, .Name x3 px3] tk tpos, iter, [], 0⟩] scope pos) scope X.env (firstIterPos [⟨.Tuple [.Name x1 px1, .Name x2 px2, .Name x3 px3] tk tpos, iter, [], 0⟩] pos) (newList []) false (eval iter X.env) use) Q X.xe s := by
  have hcell' : ∀ y ∈ scope.names, y.2 ≠ .cell := fun y hy => by
    have := List.all_eq_true.mp hcell y hy
    simpa using this
  have hnm : ∀ y ∈ scope.names, y.2 = .local → scope.names.lookup y.1 = some .local := fun y hy e => by
    have := List.all_eq_true.mp hnames y hy
    rw [e] at this
    simpa using this
  have clX : ∀ y c, cl.lookup y = some c → X.env.cells.lookup y = some c := fun y c e => by
    have hm := PySem.mem_of_lookup e
    obtain ⟨k, hk, e2⟩ := List.mem_iff_getElem.mp hm
    have := congrArg (fun l => l[k]?) hcl
    simp only [List.getElem?_map, List.getElem?_eq_getElem hk, Option.map_some, e2] at this
    exact Option.some.inj this
  have has : ∀ y, ((relabel scope X.env).names.lookup y = some .cell ∨ (relabel scope X.env).names.lookup y = some .free) → ∃ c, cl.lookup y = some c := fun y hy => by
    have key : ∀ k : NameKind, (k = .cell ∨ k = .free) → (relabel scope X.env).names.lookup y = some k → ∃ c, cl.lookup y = some c := fun k hk e => by
      have := List.all_eq_true.mp hhas _ (PySem.mem_of_lookup e)
      rcases hk with rfl | rfl <;> exact Option.isSome_iff_exists.mp (by simpa using this)
    rcases hy with e | e
    · exact key _ (.inl rfl) e
    · exact key _ (.inr rfl) e
  refine wpAny_comprehension_free (use := use) rfl hs hclos hkind hnm (thn (hi pins s σ H _ I h) fun v s1 h1 => thn h1 fun itv s2 h2 => ?_)
  obtain ⟨it, fp, tn, J, H2, e, I2, T, st2, f2, W, ⟨m0, w0⟩, turn⟩ := h2
  subst e
  refine wpAny_newObj_type (wpAny_newFunctionEnv hcell' (by intro y hy; simp at hy) (fun h₁ hns hsb => ?_) hkind)
  dsimp only at hns hsb ⊢
  generalize hG : s2.heap.push { cls := .type "list", dict := none, data := .seq ([] : List Value).toArray } = G at hns hsb ⊢
  have szG : G.objs.size = s2.heap.objs.size + 1 := by rw [← hG, Heap.size_push]
  have inG : ∀ b o, s2.heap.get? b = some o → G.get? b = some o := fun b o e => hG ▸ Heap.get?_push_of_some _ e
  have ltC : ∀ b o, s2.heap.get? b = some o → b ≠ G.objs.size := fun b o e => by rw [szG]; exact Nat.ne_of_lt (Nat.lt_succ_of_lt (Heap.lt_size e))
  have ltD : ∀ b o, s2.heap.get? b = some o → b ≠ s2.heap.objs.size := fun b o e => Nat.ne_of_lt (Heap.lt_size e)
  have DC : s2.heap.objs.size ≠ G.objs.size := by rw [szG]; omega
  have old : ∀ b o, s2.heap.get? b = some o → h₁.get? b = some o := fun b o e => hsb.extBut b o (ltC b o e) (Heap.get?_push_of_some _ (inG b o e))
  have hacc : h₁.PlainList s2.heap.objs.size #[] := ⟨_, hsb.extBut _ _ DC (Heap.get?_push_of_some _ (hG ▸ Heap.get?_push_size _ rfl))⟩
  have fpO : ∀ b ∈ fp, ∃ o, s2.heap.get? b = some o := fun b hb => let ⟨o, e, _⟩ := T.obj 0 _ st2 b hb; ⟨o, e⟩
  have stkO : ∀ b ∈ frs X.stack, ∃ o, s2.heap.get? b = some o := fun b hb => by
    obtain ⟨_, o, ho, _⟩ := I2.stack.mem hb
    exact ⟨o, ho⟩
  have freshH : ∀ a, s2.heap.objs.size ≤ a → H2 a = none := fun a ha => I2.hok.fresh ha
  have stkFp : ∀ b ∈ fp, b ∉ frs X.stack := fun b hb z => by
    rcases List.mem_cons.mp (I2.stkSub b z) with q | q
    · exact (f2 b hb).2.1 q
    · exact (f2 b hb).2.2.1 q
  have okX : (qm X scope cl G.objs.size (x1 :: x2 :: x3 :: ys) s2 H2 fp).Ok := {
    mod := I2.ok.mod
    kind := hkind
    glob := I2.ok.glob
    blt := I2.ok.blt
    above := by show s2.heap.objs.size ≤ G.objs.size; rw [szG]; omega
    inj := fun y z c e1 e2 => I2.ok.inj y z c (clX y c e1) (clX z c e2)
    has := fun y hy => has y hy
    cab := fun y c e _ => absurd (show false = true from e) Bool.false_ne_true
    hd := I2.ok.hd
    frames := I2.ok.frames
    stk := .inl rfl
    exf := fun b hb => by
      obtain ⟨o, e⟩ := fpO b hb
      exact ⟨ltC b o e, fun y c e1 => (f2 b hb).2.2.2.2.1 y c (clX y c e1)⟩
    bs := I2.bs
    bsz := Nat.le_trans I2.ok.bsz I2.sz
    noex := fun b o e hb => by
      rcases (f2 b hb).2.2.2.1 with q | q
      · exact I2.ok.noex b o e q
      · exact Nat.lt_irrefl _ (Nat.lt_of_lt_of_le (Nat.lt_of_lt_of_le (Heap.lt_size e) I2.ok.bsz) q)
    exfs := stkFp
    funs := I2.stack
    frf := I2.stkFree }
  have lenY : js.length = ys.length := by have := congrArg List.length hjs; simpa using this
  have I0 : Inv (qm X scope cl G.objs.size (x1 :: x2 :: x3 :: ys) s2 H2 fp) [] (none :: none :: none :: xR js σ) H2 { s2 with heap := h₁, toks := s2.toks + ([] : List (Str × Value)).length } := by
    refine ⟨okX, rfl, I2.bare, Un.kept old, ⟨_, hns, fun k y v e1 e2 e3 => ?_⟩, fun y c e => ?_, freshH _ (by show s2.heap.objs.size ≤ G.objs.size; rw [szG]; omega), fun y c e => I2.freeC y c (clX y c e), fun p hp => absurd (show p ∈ ([] : List (Addr × Obj)) from hp) (by simp), I2.hok.kept old, ?_⟩
    · match k, e1, e2 with
      | 0, e1, e2 => cases e2
      | 1, e1, e2 => cases e2
      | 2, e1, e2 => cases e2
      | k + 3, e1, e2 =>
        have e1' : ys[k]? = some y := e1
        have e2' : (xR js σ)[k]? = some (some v) := e2
        unfold xR at e2'
        rw [List.getElem?_map] at e2'
        cases ej : js[k]? with
        | none => rw [ej] at e2'; cases e2'
        | some j =>
          rw [ej] at e2'
          have e4 : (σ[j]?).join = some v := Option.some.inj e2'
          have e5 : σ[j]? = some (some v) := by
            cases q : σ[j]? with
            | none => rw [q] at e4; cases e4
            | some o => rw [q] at e4; exact congrArg some e4
          have e6 : X.N[j]? = some y := by
            have := congrArg (fun l => l[k]?) hjs
            simp only [List.getElem?_map, ej, e1', Option.map_some] at this
            exact Option.some.inj this
          have hy := List.all_eq_true.mp hys y (List.mem_of_getElem? e1')
          simp only [Bool.and_eq_true, Bool.or_eq_true, beq_iff_eq] at hy
          obtain ⟨ky, ko⟩ := hy
          obtain ⟨m, hn, hl⟩ := I2.loc
          obtain ⟨u, r, lk⟩ := hl j y v e6 e5 (.inr ko)
          refine ⟨u, r, .inr ⟨ky, ?_⟩⟩
          rcases lk with ⟨kl, _⟩ | ⟨_, c, ec, hc⟩
          · have kl' : X.env.scope.names.lookup y = some .local := kl
            rw [kl'] at ko
            rcases ko with z | z <;> cases z
          · obtain ⟨c', ec'⟩ := has y ky
            have := clX y c' ec'
            rw [ec] at this
            cases this
            obtain ⟨o, ho, hd⟩ := hc
            exact ⟨c, ec', o, old c o ho, hd⟩
    · obtain ⟨v, o, ho, hd⟩ := I2.cell y c (clX y c e)
      exact ⟨v, o, old c o ho, hd⟩
    · show (none :: none :: none :: xR js σ).length = (x1 :: x2 :: x3 :: ys).length
      simp [xR, lenY]
  have loop : ∀ s3 : Shared, s3 = { s2 with heap := h₁, toks := s2.toks + ([] : List (Str × Value)).length } →
      codeAny (model X.prog X.w) X.A (.compLoop (.ListComp elt [⟨.Tuple [.Name x1 px1, .Name x2 px2, .Name x3 px3] tk tpos, iter, [], 0⟩] scope pos) 0 (.ref it) (.ref s2.heap.objs.size) (compEnvC scope cl G.objs.size X.env))
        (compPost (model X.prog X.w) X.A X.xe use Q (.ref s2.heap.objs.size) G.objs.size) s3 := by
    rintro s3 rfl
    have stat : ∀ {H' : Hp} (o : Obj), (∀ b ∈ fp, H' b = none) → ∀ b ∈ fp, qAi (qm X scope cl G.objs.size (x1 :: x2 :: x3 :: ys) s2 H2 fp) [(s2.heap.objs.size, o)] H' b := fun {H'} o hn b hb => by
      obtain ⟨ob, eb⟩ := fpO b hb
      refine ⟨hn b hb, ltC b ob eb, stkFp b hb, .inl hb, fun y c e1 => (f2 b hb).2.2.2.2.1 y c (clX y c e1), fun p hp => ?_⟩
      have hp' : p = (s2.heap.objs.size, o) := by
        have : p ∈ [(s2.heap.objs.size, o)] := hp
        simpa using this
      rw [hp']
      exact Ne.symm (ltD b ob eb)
    refine vZ (fun n s' => ∃ i acc its H3, Inv (qm X scope cl G.objs.size (x1 :: x2 :: x3 :: ys) s2 H2 fp) [] (none :: none :: none :: xR js σ) H3 s' ∧ tn i s'.heap ∧ (∀ b ∈ fp, H3 b = none) ∧ s'.heap.PlainList s2.heap.objs.size its.toArray ∧ Vals acc its ∧ H3 s2.heap.objs.size = none ∧ W i n acc H3)
      ?_ m0 ⟨0, [], [], H2, I0, T.keep _ _ _ st2 fun b _ o e => old b o e, fun b hb => (f2 b hb).1, hacc, .nil, freshH _ (Nat.le_refl _), w0⟩
    rintro n s3 ⟨i, acc, its, H3, I3, st3, fr3, ⟨nn, pl3⟩, va3, hD3, w3⟩
    obtain ⟨hlen, cs⟩ := turn i n acc H3 w3
    have hal : acc.length = its.length := va3.length
    have nD : s2.heap.objs.size ∉ frs X.stack := fun z => by
      obtain ⟨o, e⟩ := stkO _ z
      exact ltD _ o e rfl
    have I3p : Inv (qm X scope cl G.objs.size (x1 :: x2 :: x3 :: ys) s2 H2 fp) [(s2.heap.objs.size, { cls := .type "list", data := .seq its.toArray nn })] (none :: none :: none :: xR js σ) H3 s3 := I3.pins_of fun p hp => by
      have e : p = (s2.heap.objs.size, { cls := .type "list", data := .seq its.toArray nn }) := by simpa using hp
      subst e
      exact ⟨pl3, hD3, DC, nD, fun v z => nomatch z⟩
    rcases cs with ⟨stop, q⟩ | ⟨go, step⟩
    · refine thn (T.done (qm X scope cl G.objs.size (x1 :: x2 :: x3 :: ys) s2 H2 fp) rfl rfl rfl hcm i _ s3 _ H3 _ I3p (stat _ fr3) st3 stop) fun r s4 hr => ?_
      obtain ⟨hr, I4⟩ := hr
      subst hr
      have pl4 := (I4.pin (s2.heap.objs.size, { cls := .type "list", data := .seq its.toArray nn }) (by simp)).1
      obtain ⟨m, hn, _⟩ := I4.loc
      have B := I4.base
      have un' : Un (frs X.stack) fp H2 (upd H3 s2.heap.objs.size (.lst acc)) s2.heap s4.heap := by
        refine ⟨fun b o e n hb hx => B.keep b o e n hb hx, fun b o e n hb hx => B.slot b o e n hb hx, fun b o e n hx => ?_, fun b o e hx => B.there b o e hx, fun b xs e => ?_, fun b o u e => ?_, fun b ps e => ?_⟩
        · rw [qP (ltD b o e)]
          exact B.free b o e n hx
        · have z := B.tups b xs e
          rw [qP (qL z hD3)]
          exact z
        · have z := B.frzs b o u e
          rw [qP (qL z hD3)]
          exact z
        · obtain ⟨more, z⟩ := B.tbls b ps e
          exact ⟨more, by rw [qP (qL z hD3)]; exact z⟩
      have freeC4 : H3 G.objs.size = none := I4.free
      have hok' : HOk X.prog X.w (upd H3 s2.heap.objs.size (.lst acc)) s4.heap := fun b u e => by
        by_cases hb : b = s2.heap.objs.size
        · subst hb
          rw [qD] at e
          cases e
          exact ⟨Nat.le_of_lt hlen, its, nn, va3, pl4⟩
        · rw [qP hb] at e
          exact (I4.hok b u e).stay (fun c v hc z => z) (fun c z => by rw [qP (qL z hD3)]; exact z) fun c xs z => by rw [qP (qL z hD3)]; exact z
      have hch : ∀ b ∈ fp, (b ∈ X.ex ∨ X.s₀.heap.objs.size ≤ b) ∧ b ≠ X.env.locals ∧ (∀ y c, X.env.cells.lookup y = some c → c ≠ b) ∧ ∀ p ∈ X.pn ++ pins, p.1 ≠ b := fun b hb => by
        obtain ⟨_, z1, _, z3, z4, z5⟩ := f2 b hb
        exact ⟨z3, z1, z4, z5⟩
      have I5 := I2.call' (s' := s4) (ch := fp) I4.os un' hok' I4.bare hch
      refine fin (.ref s2.heap.objs.size) _ _ s4 G.objs.size I5 rfl (q _ hD3) ⟨m, hn⟩ ?_ ?_ ?_ (fun y c e => ?_) fun p hp => ?_
      · rw [qP (Ne.symm DC)]; exact freeC4
      · rw [szG]; exact Nat.ne_of_gt (Nat.lt_succ_of_lt I2.lt)
      · rw [szG]; exact Nat.le_succ_of_le I2.sz
      · obtain ⟨v, o, ho, _⟩ := I2.cell y c e
        exact ltC c o ho
      · exact ltC p.1 p.2 (I2.pin p hp).1
    · refine thn (T.item (qm X scope cl G.objs.size (x1 :: x2 :: x3 :: ys) s2 H2 fp) rfl rfl rfl hcm i _ s3 _ H3 _ I3p (stat _ fr3) st3 go) fun r s4 hr => ?_
      obtain ⟨u, hr, h4⟩ := hr
      subst hr
      refine thn h4 fun _ s5 h5 => ?_
      obtain ⟨v, H5, I5, r5, y5, st5, fr5⟩ := h5
      have I5' := I5.pinned (stat _ fr5) (T.obj _ _ st5)
      obtain ⟨pt, va, vb, vc, ev, hsq, q5⟩ := step v H5 y5
      have pg : PG (qm X scope cl G.objs.size (x1 :: x2 :: x3 :: ys) s2 H2 fp).nox (.Tuple [.Name x1 px1, .Name x2 px2, .Name x3 px3] tk tpos) (qDg X.K 3 (wx (wJ 0) (wx (wJ 1) (wx (wJ 2) qDl)))) :=
        v3 (n := 3) hcm (jb (jP (i := 0) hnd rfl (.inl (lookup_relabel_local hx1)) (.inr (lookup_relabel_local hx1))) (jb (jP (i := 1) hnd rfl (.inl (lookup_relabel_local hx2)) (.inr (lookup_relabel_local hx2))) (jb (jP (i := 2) hnd rfl (.inl (lookup_relabel_local hx3)) (.inr (lookup_relabel_local hx3))) km)))
      have I5n : Inv (qm X scope cl G.objs.size (x1 :: x2 :: x3 :: ys) s2 H2 fp).nox _ _ H5 s5 := I5'.wish _
      refine wpAny_mono (pg _ s5 _ H5 v u (fun σ' H' => σ' = some va :: some vb :: some vc :: xR js σ ∧ H' = H5) I5n r5 ⟨pt, _, ev, hsq, rfl, _, _, rfl, _, _, rfl, _, _, rfl, rfl, rfl, rfl⟩) (fun _ s6 h6 => ?_) fun _ _ z => z.elim
      obtain ⟨σ6, H6', I6', eσ, eH⟩ := h6
      subst eσ eH
      have back : ∀ (H7 : Hp) (s7 : Shared) (σ7 : L2.St) (h' : Heap) (acc' : List V) (its' : List Value) (m' : Nat), Inv (qm X scope cl G.objs.size (x1 :: x2 :: x3 :: ys) s2 H2 fp) ([(s2.heap.objs.size, { cls := .type "list", data := .seq its.toArray nn })] ++ kW fp s5.heap) (some va :: some vb :: some vc :: xR js σ) H7 s7 →
          Heap.SameBut s2.heap.objs.size s7.heap h' → h'.PlainList s2.heap.objs.size its'.toArray → Vals acc' its' → m' < n → W (i + 1) m' acc' H7 →
          ∃ m, m < n ∧ ∃ i acc its H3, Inv (qm X scope cl G.objs.size (x1 :: x2 :: x3 :: ys) s2 H2 fp) [] (none :: none :: none :: xR js σ) H3 { s7 with heap := h' } ∧ tn i h' ∧ (∀ b ∈ fp, H3 b = none) ∧ h'.PlainList s2.heap.objs.size its.toArray ∧ Vals acc its ∧ H3 s2.heap.objs.size = none ∧ W i m acc H3 := by
        intro H7 s7 _ h' acc' its' m' I7 hsb' hp' va' hm' w7
        have pinD := I7.pin (s2.heap.objs.size, { cls := .type "list", data := .seq its.toArray nn }) (by simp)
        have pf : ∀ b ∈ fp, ∀ o, s5.heap.get? b = some o → s7.heap.get? b = some o ∧ H7 b = none := fun b hb o e => by
          have z := I7.pin (b, o) (List.mem_append_right _ (List.mem_append_right _ (jy hb e)))
          exact ⟨z.1, z.2.1⟩
        have I8 : Inv (qm X scope cl G.objs.size (x1 :: x2 :: x3 :: ys) s2 H2 fp) [] (none :: none :: none :: xR js σ) H7 { s7 with heap := h' } := by
          have I7u : Inv (qm X scope cl G.objs.size (x1 :: x2 :: x3 :: ys) s2 H2 fp) [] (none :: none :: none :: xR js σ) H7 s7 := (I7.pins_of (pins' := []) fun p hp => absurd hp (by simp)).weak (by simp) fun k v e => by
            match k, e with
            | 0, e => cases e
            | 1, e => cases e
            | 2, e => cases e
            | k + 3, e => exact e
          refine I7u.turned (t' := s7.toks) (it := s2.heap.objs.size) (fun b o hb e => hsb'.extBut b o hb e) pinD.2.1 DC (.inr (Nat.le_refl _)) (fun y c e => ?_) fun p hp => absurd (show p ∈ ([] : List (Addr × Obj)) from hp) (by simp)
          obtain ⟨v, o, ho, _⟩ := I2.cell y c (clX y c e)
          exact ltD c o ho
        refine ⟨m', hm', i + 1, acc', its', H7, I8, ?_, fun b hb => ?_, hp', va', pinD.2.1, w7⟩
        · refine T.keep _ _ _ st5 fun b hb o e => hsb'.extBut b o ?_ (pf b hb o e).1
          obtain ⟨ob, eb⟩ := fpO b hb
          exact ltD b ob eb
        · obtain ⟨o, e, _⟩ := T.obj _ _ st5 b hb
          exact (pf b hb o e).2
      simp only [List.forIn_nil]
      refine wpAny_pure ?_
      rw [if_pos rfl]
      refine wpAny_mono (he G.objs.size s2 H2 fp _ s6 _ _ _ I6' q5) (fun y s7 h7 => ?_) fun _ _ z => z.elim
      obtain ⟨v7, H7, I7, r7, m', hm', w7⟩ := h7
      have I7 := I7.unwish
      have pinD := I7.pin (s2.heap.objs.size, { cls := .type "list", data := .seq its.toArray nn }) (by simp)
      refine wpAny_list_append_plain (items := its.toArray) ⟨nn, pinD.1⟩ (fun h' hp' hsb' => ?_) (by rw [List.size_toArray, ← hal]; exact Nat.le_of_lt hlen)
      have e8 : its.toArray.push y = (its ++ [y]).toArray := by simp
      rw [e8] at hp'
      exact back H7 s7 (none :: none :: none :: xR js σ) h' (acc ++ [v7]) (its ++ [y]) m' I7 hsb' hp' (va3.append (.cons r7 .nil)) hm' w7
  exact codeAny_compStart_list (loop _ rfl) (T.self _ 0 _ _ _ (T.keep _ _ _ st2 fun b _ o e => old b o e) (loop _ rfl))
theorem vR {X : Cx} {elt iter : Expr} {x1 x2 x3 : Str} {px1 px2 px3 : Pos} {tk : Nat} {tpos : Pos} {scope : Scope} {cl : List (Str × Addr)} {pos : Pos} {wi : TI} {te : TE} (ys : List Str) (js : List Nat)
    (hcm : X.calm = true) (hi : PI X (.Tuple [.Name x1 px1, .Name x2 px2, .Name x3 px3] tk tpos) iter wi) (he : ∀ C s H fp, PE (qm X scope cl C (x1 :: x2 :: x3 :: ys) s H fp).nox elt te)
    (hclos : closureFor scope X.env = pure cl := by rfl)
    (hcl : cl.map (fun p => X.env.cells.lookup p.1) = cl.map (fun p => some p.2) := by rfl)
    (hcell : (scope.names.all fun p => p.2 != .cell) = true := by rfl) (hkind : scope.kind = .function := by rfl)
    (hnames : (scope.names.all fun p => p.2 != .local || scope.names.lookup p.1 == some .local) = true := by rfl)
    (hx1 : scope.names.lookup x1 = some .local := by rfl) (hx2 : scope.names.lookup x2 = some .local := by rfl) (hx3 : scope.names.lookup x3 = some .local := by rfl)
    (hhas : ((relabel scope X.env).names.all fun p => (p.2 != .cell && p.2 != .free) || (cl.lookup p.1).isSome) = true := by rfl)
    (hnd : (x1 :: x2 :: x3 :: ys).Nodup := by decide)
    (hjs : js.map (fun j => X.N[j]?) = ys.map some := by rfl)
    (hys : (ys.all fun y => ((relabel scope X.env).names.lookup y == some .cell || (relabel scope X.env).names.lookup y == some .free) && (X.env.scope.names.lookup y == some .cell || X.env.scope.names.lookup y == some .free)) = true := by rfl)
    (hs : ∀ x, foldedSetIterable iter X.env x = pure x := by intro _; rfl) : PE X (.ListComp elt [⟨.Tuple [.Name x1 px1, .Name x2 px2, .Name x3 px3] tk tpos, iter, [], 0⟩] scope pos) (qAq X.K js wi te) := by
  intro pins s σ H Q I h
  rw [eval_ListComp]
  refine ve ys js hcm hi he hclos hcl hcell hkind hnames hx1 hx2 hx3 hhas hnd hjs hys hs Q none (EP X pins σ Q) I h fun v u H' s' C I' r q hm h0 h1 h2 h3 h4 => ?_
  obtain ⟨m, hm⟩ := hm
  exact ⟨m, hm, fun h' hsb => ⟨v, H', kz I' hsb h0 h1 h2 h3 h4, r, q⟩⟩
theorem vV {K : PySem.W.Frag} {a : Addr} {xs : List V} {js : List Nat} {te : TE} {σ : L2.St} {H : Hp} {Q : VK} (Pv : Nat → List V → Hp → Prop) (h0 : Pv 0 [] H) (hl : ∀ i acc H, i ≤ xs.length → Pv i acc H → SqL K H a xs ∧ acc.length < sizeLine)
    (hs : ∀ i x acc H, i < xs.length → xs[i]? = some x → Pv i acc H → ∃ p va vb vc, x = .ref p ∧ SqT K H p [va, vb, vc] ∧ te (some va :: some vb :: some vc :: xR js σ) H fun v H' => Nxt xs.length i (Pv (i + 1) (acc ++ [v]) H')) (hd : ∀ acc H, Pv xs.length acc H → ∀ D, H D = none → Q (.ref D) (upd H D (.lst acc))) : kx K js te σ Q (Itl K a) H := by
  refine ⟨fun i m acc H => m = xs.length - i ∧ i ≤ xs.length ∧ Pv i acc H, ⟨xs.length, by simp, Nat.zero_le _, h0⟩, ?_⟩
  rintro i m acc H2 ⟨rfl, hi, p⟩
  obtain ⟨q, hz⟩ := hl i acc H2 hi p
  refine ⟨hz, ?_⟩
  by_cases hlt : i < xs.length
  · refine .inr ⟨⟨xs, xs[i], q, by simp [hlt]⟩, fun x H3 y => ?_⟩
    obtain ⟨e, y⟩ := y
    subst e
    exact hs i x acc _ hlt (y xs q) p
  · have e : i = xs.length := by omega
    subst e
    exact .inl ⟨⟨xs, q, Nat.le_refl _⟩, hd acc H2 p⟩
theorem ki {X : Cx} {K : PySem.W.Frag} (h : X.K = K) (hu : X.A.units < cLine) : OpR X (compareOp .Eq) (qDd K false) := h ▸ qB4 hu
end L3
set_option maxHeartbeats 4000000
namespace L3
open PySem PySem.Spec PyProof.Rows L2
end L3
set_option maxHeartbeats 4000000
set_option maxRecDepth 100000
namespace Lw
open PySem L2 L3 Mt
seal L2.PSs L2.PS L2.PE L2.PA L2.PT L2.PW L2.PC L2.PI L2.PG L2.PGs L2.PO
def top (i : Nat) : Stmt := PySem.Challenge.pw_reelcut_k81_lists_written.main.body.getD i (.Pass ⟨0, 0, 0, 0⟩)
abbrev jU : Stmt := top 5
abbrev qk : Stmt := top 6
abbrev q8 : Stmt := top 7
abbrev jV : Stmt := top 8
abbrev jT : Stmt := top 9
abbrev jW : Stmt := top 10
abbrev jK : Stmt := top 11
abbrev jS : Stmt := top 12
abbrev jj : Stmt := top 13
abbrev jG : Stmt := top 16
abbrev jk : Stmt := top 19
abbrev jA : Stmt := top 20
abbrev qj : Stmt := top 21
abbrev j0 : Stmt := top 22
abbrev jh : Stmt := top 23
abbrev jM : Stmt := top 24
abbrev qv : Stmt := top 26
abbrev jC : Stmt := top 27
abbrev jL : Stmt := top 28
abbrev jD : Stmt := top 29
abbrev jJ : Stmt := top 30
abbrev qi : Stmt := top 31
abbrev q9 : Stmt := top 32
abbrev qt : Stmt := top 33
abbrev zX : Stmt := top 34
theorem xo : qW ["x"] ["x"] (qF jU) := ⟨rfl, rfl, rfl, by decide +kernel, rfl, by decide +kernel, by decide +kernel⟩
theorem sc_common_divisor : qW ["one", "other", "rest"] ["one", "other"] (qF qk) := ⟨rfl, rfl, rfl, by decide +kernel, rfl, by decide +kernel, by decide +kernel⟩
theorem zD : qW ["x"] ["x"] (qF q8) := ⟨rfl, rfl, rfl, by decide +kernel, rfl, by decide +kernel, by decide +kernel⟩
theorem sc_fraction : qW ["top", "bottom", "divisor"] ["top", "bottom"] (qF jV) := ⟨rfl, rfl, rfl, by decide +kernel, rfl, by decide +kernel, by decide +kernel⟩
theorem kZ : qW ["one", "other"] ["one", "other"] (qF jT) := ⟨rfl, rfl, rfl, by decide +kernel, rfl, by decide +kernel, by decide +kernel⟩
theorem kc : qW ["one", "other"] ["one", "other"] (qF jW) := ⟨rfl, rfl, rfl, by decide +kernel, rfl, by decide +kernel, by decide +kernel⟩
theorem kH : qW ["one", "other"] ["one", "other"] (qF jK) := ⟨rfl, rfl, rfl, by decide +kernel, rfl, by decide +kernel, by decide +kernel⟩
theorem kh : qW ["one"] ["one"] (qF jS) := ⟨rfl, rfl, rfl, by decide +kernel, rfl, by decide +kernel, by decide +kernel⟩
theorem vd : qW ["one"] ["one"] (qF jj) := ⟨rfl, rfl, rfl, by decide +kernel, rfl, by decide +kernel, by decide +kernel⟩
theorem zO : qW ["item"] ["item"] (qF jG) := ⟨rfl, rfl, rfl, by decide +kernel, rfl, by decide +kernel, by decide +kernel⟩
theorem vj : qW ["thing"] ["thing"] (qF jk) := ⟨rfl, rfl, rfl, by decide +kernel, rfl, by decide +kernel, by decide +kernel⟩
theorem j4 : qW ["rate", "other"] ["rate", "other"] (qF jA) := ⟨rfl, rfl, rfl, by decide +kernel, rfl, by decide +kernel, by decide +kernel⟩
theorem xK : qW ["item"] ["item"] (qF qj) := ⟨rfl, rfl, rfl, by decide +kernel, rfl, by decide +kernel, by decide +kernel⟩
theorem sc_row_at : qW ["border", "by", "what", "place"] ["border", "by", "what"] (qF j0) := ⟨rfl, rfl, rfl, by decide +kernel, rfl, by decide +kernel, by decide +kernel⟩
theorem sc_written : qW ["track", "rate", "other", "by", "rows", "border", "item"] ["track", "rate", "other"] (qF jh) := ⟨rfl, rfl, rfl, by decide +kernel, rfl, by decide +kernel, by decide +kernel⟩
theorem xQ : qW ["track", "rate", "other"] ["track", "rate", "other"] (qF jM) := ⟨rfl, rfl, rfl, by decide +kernel, rfl, by decide +kernel, by decide +kernel⟩
theorem xp : qW ["_law_script", "_law_k"] ["_law_script", "_law_k"] (qF qv) := ⟨rfl, rfl, rfl, by decide +kernel, rfl, by decide +kernel, by decide +kernel⟩
theorem sc__law_drawn : qW ["_law_number", "_law_many", "_law_found", "_law_x", "_law_k"] ["_law_number", "_law_many"] (qF jC) := ⟨rfl, rfl, rfl, by decide +kernel, rfl, by decide +kernel, by decide +kernel⟩
theorem sc__law_part : qW ["_law_x", "_law_cell", "_law_step", "_law_start", "_law_length"] ["_law_x", "_law_cell"] (qF jL) := ⟨rfl, rfl, rfl, by decide +kernel, rfl, by decide +kernel, by decide +kernel⟩
theorem sc__law_track : qW ["_law_cells", "_law_track_here", "_law_k", "_law_x", "_law_item"] ["_law_cells"] (qF jD) := ⟨rfl, rfl, rfl, by decide +kernel, rfl, by decide +kernel, by decide +kernel⟩
theorem kK : qW ["_law_x"] ["_law_x"] (qF jJ) := ⟨rfl, rfl, rfl, by decide +kernel, rfl, by decide +kernel, by decide +kernel⟩
theorem sc__law_row_right : qW ["_law_row", "_law_border", "_law_rate_here", "_law_other", "_law_what", "_law_whole", "_law_rest", "_law_said", "_law_told"] ["_law_row", "_law_border", "_law_rate_here", "_law_other", "_law_what"] (qF qi) := ⟨rfl, rfl, rfl, by decide +kernel, rfl, by decide +kernel, by decide +kernel⟩
theorem sc__law_lowest : qW ["_law_one", "_law_low", "_law_high"] ["_law_one"] (qF q9) := ⟨rfl, rfl, rfl, by decide +kernel, rfl, by decide +kernel, by decide +kernel⟩
theorem sc__law_refused : qW ["_law_track_here", "_law_rate_here", "_law_other", "_law_kind", "_law_refused_here", "e"] ["_law_track_here", "_law_rate_here", "_law_other", "_law_kind"] (qF qt) := ⟨rfl, rfl, rfl, by decide +kernel, rfl, by decide +kernel, by decide +kernel⟩
theorem sc_law : qW ["_law_script", "_law_cell", "_law_rate_here", "_law_other", "_law_track_here", "_law_handed", "_law_rows", "_law_border", "_law_k", "_law_what", "_law_found", "_law_odd"] ["_law_script"] (qF zX) := ⟨rfl, rfl, rfl, by decide +kernel, rfl, by decide +kernel, by decide +kernel⟩
set_option genInjectivity false
set_option genSizeOf false
structure Ads where
  a_is_whole : Addr
  f_is_whole : FuncData
  a_common_divisor : Addr
  f_common_divisor : FuncData
  a_is_fraction : Addr
  f_is_fraction : FuncData
  a_fraction : Addr
  f_fraction : FuncData
  a_times_of : Addr
  f_times_of : FuncData
  a_quotient : Addr
  f_quotient : FuncData
  a_is_before : Addr
  f_is_before : FuncData
  a_floor_of : Addr
  f_floor_of : FuncData
  a_rest_of : Addr
  f_rest_of : FuncData
  a_moments_of : Addr
  f_moments_of : FuncData
  a_is_rate : Addr
  f_is_rate : FuncData
  a_check_rates : Addr
  f_check_rates : FuncData
  a_without_length : Addr
  f_without_length : FuncData
  a_row_at : Addr
  f_row_at : FuncData
  a_written : Addr
  f_written : FuncData
  a_holds_all : Addr
  f_holds_all : FuncData
  a__law_cell_at : Addr
  f__law_cell_at : FuncData
  a__law_drawn : Addr
  f__law_drawn : FuncData
  a__law_part : Addr
  f__law_part : FuncData
  a__law_track : Addr
  f__law_track : FuncData
  a__law_rate : Addr
  f__law_rate : FuncData
  a__law_row_right : Addr
  f__law_row_right : FuncData
  a__law_lowest : Addr
  f__law_lowest : FuncData
  a__law_refused : Addr
  f__law_refused : FuncData
  a_law : Addr
  f_law : FuncData
  k_CutError : Addr
  k_NoNumber : Addr
  k_NoList : Addr
  n_NOUGHT : Addr
  n_END : Addr
structure Tx (K : PySem.W.Frag) (mg : Str → Option Value) (a : Ads) : Prop where
  d_is_whole : L3.Def K mg "is_whole" jU ["x"] a.a_is_whole a.f_is_whole
  d_common_divisor : L3.Def K mg "common_divisor" qk ["one", "other"] a.a_common_divisor a.f_common_divisor
  d_is_fraction : L3.Def K mg "is_fraction" q8 ["x"] a.a_is_fraction a.f_is_fraction
  d_fraction : L3.Def K mg "fraction" jV ["top", "bottom"] a.a_fraction a.f_fraction
  d_times_of : L3.Def K mg "times_of" jT ["one", "other"] a.a_times_of a.f_times_of
  d_quotient : L3.Def K mg "quotient" jW ["one", "other"] a.a_quotient a.f_quotient
  d_is_before : L3.Def K mg "is_before" jK ["one", "other"] a.a_is_before a.f_is_before
  d_floor_of : L3.Def K mg "floor_of" jS ["one"] a.a_floor_of a.f_floor_of
  d_rest_of : L3.Def K mg "rest_of" jj ["one"] a.a_rest_of a.f_rest_of
  d_moments_of : L3.Def K mg "moments_of" jG ["item"] a.a_moments_of a.f_moments_of
  d_is_rate : L3.Def K mg "is_rate" jk ["thing"] a.a_is_rate a.f_is_rate
  d_check_rates : L3.Def K mg "check_rates" jA ["rate", "other"] a.a_check_rates a.f_check_rates
  d_without_length : L3.Def K mg "without_length" qj ["item"] a.a_without_length a.f_without_length
  d_row_at : L3.Def K mg "row_at" j0 ["border", "by", "what"] a.a_row_at a.f_row_at
  d_written : L3.Def K mg "written" jh ["track", "rate", "other"] a.a_written a.f_written
  d_holds_all : L3.Def K mg "holds_all" jM ["track", "rate", "other"] a.a_holds_all a.f_holds_all
  d__law_cell_at : L3.Def K mg "_law_cell_at" qv ["_law_script", "_law_k"] a.a__law_cell_at a.f__law_cell_at
  d__law_drawn : L3.Def K mg "_law_drawn" jC ["_law_number", "_law_many"] a.a__law_drawn a.f__law_drawn
  d__law_part : L3.Def K mg "_law_part" jL ["_law_x", "_law_cell"] a.a__law_part a.f__law_part
  d__law_track : L3.Def K mg "_law_track" jD ["_law_cells"] a.a__law_track a.f__law_track
  d__law_rate : L3.Def K mg "_law_rate" jJ ["_law_x"] a.a__law_rate a.f__law_rate
  d__law_row_right : L3.Def K mg "_law_row_right" qi ["_law_row", "_law_border", "_law_rate_here", "_law_other", "_law_what"] a.a__law_row_right a.f__law_row_right
  d__law_lowest : L3.Def K mg "_law_lowest" q9 ["_law_one"] a.a__law_lowest a.f__law_lowest
  d__law_refused : L3.Def K mg "_law_refused" qt ["_law_track_here", "_law_rate_here", "_law_other", "_law_kind"] a.a__law_refused a.f__law_refused
  d_law : L3.Def K mg "law" zX ["_law_script"] a.a_law a.f_law
  c_CutError : mg "CutError" = some (.ref a.k_CutError)
  c_NoNumber : mg "NoNumber" = some (.ref a.k_NoNumber)
  c_NoList : mg "NoList" = some (.ref a.k_NoList)
  b_isinstance : mg "isinstance" = none
  b_int : mg "int" = none
  b_bool : mg "bool" = none
  b_abs : mg "abs" = none
  b_tuple : mg "tuple" = none
  b_len : mg "len" = none
  b_all : mg "all" = none
  b_range : mg "range" = none
  b_list : mg "list" = none
  g_NOUGHT : mg "NOUGHT" = some (.ref a.n_NOUGHT)
  sq_NOUGHT : ∀ H, SqT K H a.n_NOUGHT [.int 0, .int 1]
  g_END : mg "END" = some (.ref a.n_END)
  sq_END : ∀ H, SqT K H a.n_END [.str "end"]
  x_NoNumber : L3.OwnX K a.k_NoNumber
  e_NoNumber : L3.ExcK K a.k_NoNumber
  m_NoNumber : PySem.W.exmOne K (.ref a.k_NoNumber) (.ref a.k_NoNumber) = some true
  i_NL : PySem.W.kitOne K (.ref a.k_NoNumber) (.ref a.k_NoList) = some false
def qAf (K : PySem.W.Frag) : Sp := fun vs H Q _ => ∃ (a : Addr) (ns : List Int), vs = [.ref a] ∧ SqL K H a (ns.map V.int) ∧ ns.length ≤ 63 ∧ ∀ H', Q (.bl true) H'
def qBn (H : Hp) (Q : VK) (p q : Int) : Prop := ∀ z, H z = none → Q (.ref z) (upd H z (.tup [.int p, .int q]))
theorem j8 {CX : CXT} {P : Program} {w : World} {K : PySem.W.Frag} {mg : Str → Option Value} {base : Heap} {ns : List Str} {n : Str} {sc : Scope} {ad : Addr} {cdv : Value} {A : Around} {outer : List Env} {s : Shared} {H : Hp} {E : XK} : (wW CX P w K mg base ns n sc ad cdv A outer s H E).K = K := rfl
theorem jH {CX : CXT} {P : Program} {w : World} {K : PySem.W.Frag} {mg : Str → Option Value} {base : Heap} {ns : List Str} {n : Str} {sc : Scope} {ad : Addr} {cdv : Value} {A : Around} {outer : List Env} {s : Shared} {H : Hp} {E : XK} : (wW CX P w K mg base ns n sc ad cdv A outer s H E).nox.K = K := rfl
theorem sL0 : (0 : Nat) ≤ sizeLine := by decide
theorem sL1 : (1 : Nat) ≤ sizeLine := by decide
theorem sL2 : (2 : Nat) ≤ sizeLine := by decide
theorem sL3 : (3 : Nat) ≤ sizeLine := by decide
theorem sL4 : (4 : Nat) ≤ sizeLine := by decide
theorem sL5 : (5 : Nat) ≤ sizeLine := by decide
theorem glt {α : Type} {xs : List α} {i : Nat} {x : α} (h : xs[i]? = some x) : i < xs.length := (List.getElem?_eq_some_iff.mp h).1
section
variable {P : Program} {w : World} {K : W.Frag} {mg : Str → Option Value} {base : Heap} {a : Ads}
def kY : Sp := fun vs H Q _ => ∃ i : Int, vs = [.int i] ∧ Q (.bl true) H
theorem xj (T : Tx K mg a) : FnOk P w K mg base CX0 1 a.a_is_whole a.f_is_whole ["x"] kY := by
  refine T.d_is_whole.F.ok xo (fun vs H Q E h => ?_) (fun cdv A outer s H vs Q E hr h => ?_)
  · obtain ⟨i, rfl, _⟩ := h
    rfl
  obtain ⟨i, rfl, q⟩ := h
  refine ⟨_, (qH (qX (kA (qR qg rfl T.b_isinstance rfl (qA (pv 0) (qA (xV rfl T.b_int rfl) qC))) (kM (wS (qR qg rfl T.b_isinstance rfl (qA (pv 0) (qA (xV rfl T.b_bool rfl) qC)))))))), ?_⟩
  try dsimp only [j8, jH]
  refine ⟨_, rfl, _, _, _, true, rfl, .int i, ⟨_, .inl ⟨rfl, rfl⟩⟩, true, rfl, x9 ?_⟩
  refine ⟨_, rfl, _, _, _, false, rfl, .int i, ⟨_, .inl ⟨rfl, by kernel_rfl⟩⟩, false, rfl, ?_⟩
  exact q
def xL : Sp := fun vs H Q _ => ∃ i j : Int, vs = [.int i, .int j] ∧ Q (.int ((Int.gcd i j : Nat) : Int)) H
theorem jg (T : Tx K mg a) : FnOk P w K mg base CX0 1 a.a_common_divisor a.f_common_divisor ["one", "other"] xL := by
  refine T.d_common_divisor.F.ok sc_common_divisor (fun vs H Q E h => ?_) (fun cdv A outer s H vs Q E hr h => ?_)
  · obtain ⟨i, j, rfl, _⟩ := h
    rfl
  obtain ⟨i, j, rfl, q⟩ := h
  refine ⟨_, (qG (vP PassesOwn.never (qM xW (pv 1) qB (qN _)) (qG (qY (i := 2) sc_common_divisor.nd rfl (Or.inl rfl) (qI qU (pv 0) (pv 1)))
      (qG (qY (i := 0) sc_common_divisor.nd rfl (Or.inl rfl) (pv 1))
      (qH (qY (i := 1) sc_common_divisor.nd rfl (Or.inl rfl) (pv 2))))))
      (qH (qX (qR ww rfl T.b_abs rfl (qA (pv 0) qC))))), ?_⟩
  try dsimp only [j8, jH]
  refine vQ (fun σ H' => H' = H ∧ ∃ (x y : Int) (v : Option V), σ = [some (.int x), some (.int y), v] ∧ Int.gcd x y = Int.gcd i j)
    (fun σ _ => match σ with | [_, some (.int y), _] => y.natAbs | _ => 0) ⟨rfl, i, j, none, rfl, rfl⟩ ?_ ?_
  · rintro σ H1 ⟨rfl, x, y, v, rfl, e⟩
    refine ⟨_, rfl, rfl, _, rfl, ?_⟩
    refine zH (fun c => ?_) (fun c => ?_)
    · have hy : y ≠ 0 := by simpa using c
      refine ⟨_, rfl, _, rfl, _, _, rfl, rfl, hy, _, rfl, _, rfl, ⟨rfl, y, x.fmod y, _, rfl, ?_⟩, ?_⟩
      · rw [jx]; exact e
      · exact wH x y hy
    · have hy : y = 0 := by simpa using c
      subst hy
      refine ⟨_, rfl, x, rfl, ?_⟩
      have e2 : (if x < 0 then -x else x) = ((Int.gcd i j : Nat) : Int) := by
        rw [← e, Int.gcd_zero_right]
        split <;> omega
      rw [e2]
      exact q
  · rintro σ H1 Q1 Q2 hq h
    obtain ⟨v, e, s, k, hk, z⟩ := h
    exact ⟨v, e, s, k, hk, hq _ _ z⟩
def ku : Sp := fun vs H Q _ => ∃ t b : Int, vs = [.int t, .int b] ∧ b ≠ 0 ∧ b.natAbs < 2 ^ 8000 ∧ qBn H Q (xM t b) (jt t b)
theorem wf {t b : Int} (h : b ≠ 0) (hb : b.natAbs < 2 ^ 8000) : CDivB t (sg t b) ∧ CDivB b (sg t b) := by
  have h1 := qC9 (t := t) h
  have h2 : (sg t b).natAbs < 2 ^ 8000 := by
    rw [vI]
    exact Nat.lt_of_le_of_lt (Nat.le_of_dvd (by omega) (Int.gcd_dvd_natAbs_right ..)) hb
  exact ⟨⟨h1, h2⟩, ⟨h1, h2⟩⟩
theorem j5 (T : Tx K mg a) : FnOk P w K mg base CX0 2 a.a_fraction a.f_fraction ["top", "bottom"] ku := by
  refine T.d_fraction.F.ok sc_fraction (fun vs H Q E h => ?_) (fun cdv A outer s H vs Q E hr h => ?_)
  · obtain ⟨t, b, rfl, _⟩ := h
    rfl
  obtain ⟨t, b, rfl, hb, hs, q⟩ := h
  refine ⟨_, (qG (jQ (PW.pt (jf (jI (jF (qS T.d_is_whole (xj T) hr rfl (qA (pv 0) qC)))) (ja (jI (jF (qS T.d_is_whole (xj T) hr rfl (qA (pv 1) qC))))))) xD qc)
      (qG (jQ (qM jp (pv 1) qB (qN _)) xD qc)
      (qG (qY (i := 2) sc_fraction.nd rfl (Or.inl rfl) (qS T.d_common_divisor (jg T) hr rfl (qA (pv 0) (qA (pv 1) qC))))
      (qG (jQ (qM vz (pv 1) qB (qN _)) (qH (qY (i := 2) sc_fraction.nd rfl (Or.inl rfl) (xC jc (pv 2)))) qc)
      (qH (qX (qf (qA (qI qd (pv 0) (pv 2)) (qA (qI qd (pv 1) (pv 2)) qC))))))))), ?_⟩
  try dsimp only [j8, jH]
  refine ⟨_, rfl, t, rfl, true, rfl, jR ?_⟩
  refine ⟨_, rfl, b, rfl, true, rfl, jR ?_⟩
  refine ⟨_, rfl, rfl, _, rfl, ?_⟩
  refine zH (fun c => absurd (by simpa using c) hb) (fun _ => ?_)
  refine ⟨_, rfl, _, rfl, t, b, rfl, ?_⟩
  refine ⟨_, rfl, _, _, rfl, rfl, _, rfl, ?_⟩
  obtain ⟨d1, d2⟩ := wf (t := t) hb hs
  refine zH (fun c => ?_) (fun c => ?_)
  · have c' : b < 0 := by simpa using c
    have e : -((Int.gcd t b : Nat) : Int) = sg t b := by unfold sg; rw [if_pos c']
    have q' : qBn H Q (t.fdiv (-((Int.gcd t b : Nat) : Int))) (b.fdiv (-((Int.gcd t b : Nat) : Int))) := by rw [e]; exact q
    exact ⟨_, rfl, _, rfl, _, rfl, _, rfl, _, _, rfl, rfl, (by rw [e]; exact d1), _, rfl, _, rfl, _, _, rfl, rfl, (by rw [e]; exact d2), sL2, q'⟩
  · have c' : ¬ b < 0 := by simpa using c
    have e : ((Int.gcd t b : Nat) : Int) = sg t b := by unfold sg; rw [if_neg c']
    have q' : qBn H Q (t.fdiv ((Int.gcd t b : Nat) : Int)) (b.fdiv ((Int.gcd t b : Nat) : Int)) := by rw [e]; exact q
    exact ⟨_, rfl, _, rfl, _, _, rfl, rfl, (by rw [e]; exact d1), _, rfl, _, rfl, _, _, rfl, rfl, (by rw [e]; exact d2), sL2, q'⟩
def Pr (K : W.Frag) (H : Hp) (v : V) (p q : Int) : Prop := ∃ z, v = .ref z ∧ SqT K H z [.int p, .int q]
theorem Pr.same {H H' : Hp} {v : V} {p q : Int} (e : Same H H') (h : Pr K H v p q) : Pr K H' v p q := let ⟨z, h1, h2⟩ := h; ⟨z, h1, L3.Same.tup e h2⟩
def Sm (i : Int) : Prop := i.natAbs < 2 ^ 3000
theorem Sm.mul {i j : Int} (h1 : Sm i) (h2 : Sm j) : CMulB i j := by
  unfold Sm at h1 h2
  have : (2 : Nat) ^ 3000 ≤ 2 ^ 60000 := Nat.pow_le_pow_right (by decide) (by decide)
  exact .inr ⟨by omega, by omega⟩
theorem Sm.prod {i j : Int} (h1 : Sm i) (h2 : Sm j) : (i * j).natAbs < 2 ^ 8000 := by
  unfold Sm at h1 h2
  rw [Int.natAbs_mul]
  have h3 : i.natAbs * j.natAbs < 2 ^ 3000 * 2 ^ 3000 := Nat.mul_lt_mul'' h1 h2
  rw [← Nat.pow_add] at h3
  exact Nat.lt_of_lt_of_le h3 (Nat.pow_le_pow_right (by decide) (by decide))
theorem at0 {x y : V} : atI [x, y] 0 = some x := rfl
theorem at1 {x y : V} : atI [x, y] 1 = some y := rfl
def kn (K : W.Frag) : Sp := fun vs H Q _ => ∃ (x : V) (p q : Int), vs = [x] ∧ Pr K H x p q ∧ q ≠ 0 ∧ q.natAbs < 2 ^ 8000 ∧ Q (.int (p.fdiv q)) H
theorem kw (T : Tx K mg a) : FnOk P w K mg base CX0 1 a.a_floor_of a.f_floor_of ["one"] (kn K) := by
  refine T.d_floor_of.F.ok kh (fun vs H Q E h => ?_) (fun cdv A outer s H vs Q E hr h => ?_)
  · obtain ⟨x, p, q, rfl, _⟩ := h
    rfl
  obtain ⟨x, p, q, rfl, ⟨z1, rfl, h1⟩, hq, bq, k⟩ := h
  refine ⟨_, (qH (qX (qI qd (qK qJ (pv 0) qB (fun _ _ => rfl)) (qK qJ (pv 0) qB (fun _ _ => rfl))))), ?_⟩
  try dsimp only [j8, jH]
  exact ⟨_, rfl, _, _, _, _, rfl, rfl, h1, at0, _, rfl, _, _, _, _, rfl, rfl, h1, at1, _, _, rfl, rfl, ⟨hq, bq⟩, k⟩
theorem nz {j : Int} (h : j ≠ 0 := by decide) : j ≠ 0 := h
theorem cdB {i j : Int} (h0 : j ≠ 0) (h : j.natAbs < 18446744073709551616) : CDivB i j :=
  ⟨h0, Nat.lt_of_lt_of_le h (Nat.le_trans (by decide : 18446744073709551616 ≤ 2 ^ 64) (Nat.pow_le_pow_right (by decide) (by decide)))⟩
theorem cmR {i j : Int} (h1 : -(18446744073709551616 : Int) < j) (h2 : j < 18446744073709551616) : CMulB i j := .inl (.inr ⟨h1, h2⟩)
theorem cmL {i j : Int} (h1 : -(18446744073709551616 : Int) < i) (h2 : i < 18446744073709551616) : CMulB i j := .inl (.inl ⟨h1, h2⟩)
theorem at3 {x y z : V} {i : Int} (h0 : 0 ≤ i) (h1 : i < 3) : ∃ v, atI [x, y, z] i = some v ∧ (v = x ∨ v = y ∨ v = z) := by
  have : i = 0 ∨ i = 1 ∨ i = 2 := by omega
  rcases this with rfl | rfl | rfl
  · exact ⟨x, rfl, .inl rfl⟩
  · exact ⟨y, rfl, .inr (.inl rfl)⟩
  · exact ⟨z, rfl, .inr (.inr rfl)⟩
theorem at4 {x y z u : V} {i : Int} (h0 : 0 ≤ i) (h1 : i < 4) : ∃ v, atI [x, y, z, u] i = some v ∧ (v = x ∨ v = y ∨ v = z ∨ v = u) := by
  have : i = 0 ∨ i = 1 ∨ i = 2 ∨ i = 3 := by omega
  rcases this with rfl | rfl | rfl | rfl
  · exact ⟨x, rfl, .inl rfl⟩
  · exact ⟨y, rfl, .inr (.inl rfl)⟩
  · exact ⟨z, rfl, .inr (.inr (.inl rfl))⟩
  · exact ⟨u, rfl, .inr (.inr (.inr rfl))⟩
theorem fm (i : Int) {j : Int} (h : 0 < j) : 0 ≤ i.fmod j ∧ i.fmod j < j := ⟨Int.fmod_nonneg_of_pos i h, Int.fmod_lt_of_pos i h⟩
theorem cpw {n : Nat} (h : n ≤ 1000000) : qDj 10 (n : Int) := ⟨by omega, by omega, by decide⟩
def Good (n : Nat) (p q : Int) : Prop := 0 < q ∧ Int.gcd p q = 1 ∧ p.natAbs < 2 ^ n ∧ q.natAbs < 2 ^ n
theorem Good.mono {n m : Nat} {p q : Int} (h : Good n p q) (l : n ≤ m) : Good m p q := ⟨h.1, h.2.1, Nat.lt_of_lt_of_le h.2.2.1 (Nat.pow_le_pow_right (by decide) l), Nat.lt_of_lt_of_le h.2.2.2 (Nat.pow_le_pow_right (by decide) l)⟩
theorem Sm.of200 {i : Int} (h : i.natAbs < 2 ^ 200) : Sm i := Nat.lt_of_lt_of_le h (Nat.pow_le_pow_right (by decide) (by decide))
theorem qAl {x y X Y : Int} (h0 : 0 ≤ x) (h1 : x < X) (h2 : 0 ≤ y) (h3 : y < Y) : x * y < X * Y :=
  Int.lt_of_le_of_lt (Int.mul_le_mul_of_nonneg_left (Int.le_of_lt h3) h0) (Int.mul_lt_mul_of_pos_right h1 (by omega))
def kg (K : W.Frag) : Sp := fun vs H Q _ => ∃ (x y : V) (p q r s : Int), vs = [x, y] ∧ Pr K H x p q ∧ Pr K H y r s ∧ q ≠ 0 ∧ s ≠ 0 ∧ Sm p ∧ Sm q ∧ Sm r ∧ Sm s ∧ qBn H Q (xM (p * r) (q * s)) (jt (p * r) (q * s))
theorem kr (T : Tx K mg a) : FnOk P w K mg base CX0 3 a.a_times_of a.f_times_of ["one", "other"] (kg K) := by
  refine T.d_times_of.F.ok kZ (fun vs H Q E h => ?_) (fun cdv A outer s H vs Q E hr h => ?_)
  · obtain ⟨x, y, p, q, r, s, rfl, _⟩ := h
    rfl
  obtain ⟨x, y, p, q, r, s', rfl, ⟨z1, rfl, h1⟩, ⟨z2, rfl, h2⟩, hq, hs, bp, bq, br, bs, k⟩ := h
  refine ⟨_, (qH (qX (qS T.d_fraction (j5 T) hr rfl (qA (qI qp (qK qJ (pv 0) qB (fun _ _ => rfl)) (qK qJ (pv 1) qB (fun _ _ => rfl))) (qA (qI qp (qK qJ (pv 0) qB (fun _ _ => rfl)) (qK qJ (pv 1) qB (fun _ _ => rfl))) qC))))), ?_⟩
  try dsimp only [j8, jH]
  refine ⟨_, rfl, _, _, _, _, rfl, rfl, h1, at0, _, rfl, _, _, _, _, rfl, rfl, h2, at0, _, _, rfl, rfl, bp.mul br, ?_⟩
  refine ⟨_, rfl, _, _, _, _, rfl, rfl, h1, at1, _, rfl, _, _, _, _, rfl, rfl, h2, at1, _, _, rfl, rfl, bq.mul bs, ?_⟩
  exact ⟨_, _, rfl, Int.mul_ne_zero hq hs, bq.prod bs, k⟩
def kd (K : W.Frag) : Sp := fun vs H Q _ => ∃ (x y : V) (p q r s : Int), vs = [x, y] ∧ Pr K H x p q ∧ Pr K H y r s ∧ q ≠ 0 ∧ r ≠ 0 ∧ Sm p ∧ Sm q ∧ Sm r ∧ Sm s ∧ qBn H Q (xM (p * s) (q * r)) (jt (p * s) (q * r))
theorem kX (T : Tx K mg a) : FnOk P w K mg base CX0 3 a.a_quotient a.f_quotient ["one", "other"] (kd K) := by
  refine T.d_quotient.F.ok kc (fun vs H Q E h => ?_) (fun cdv A outer s H vs Q E hr h => ?_)
  · obtain ⟨x, y, p, q, r, s, rfl, _⟩ := h
    rfl
  obtain ⟨x, y, p, q, r, s', rfl, ⟨z1, rfl, h1⟩, ⟨z2, rfl, h2⟩, hq, hr', bp, bq, br, bs, k⟩ := h
  refine ⟨_, (qH (qX (qS T.d_fraction (j5 T) hr rfl (qA (qI qp (qK qJ (pv 0) qB (fun _ _ => rfl)) (qK qJ (pv 1) qB (fun _ _ => rfl))) (qA (qI qp (qK qJ (pv 0) qB (fun _ _ => rfl)) (qK qJ (pv 1) qB (fun _ _ => rfl))) qC))))), ?_⟩
  try dsimp only [j8, jH]
  refine ⟨_, rfl, _, _, _, _, rfl, rfl, h1, at0, _, rfl, _, _, _, _, rfl, rfl, h2, at1, _, _, rfl, rfl, bp.mul bs, ?_⟩
  refine ⟨_, rfl, _, _, _, _, rfl, rfl, h1, at1, _, rfl, _, _, _, _, rfl, rfl, h2, at0, _, _, rfl, rfl, bq.mul br, ?_⟩
  exact ⟨_, _, rfl, Int.mul_ne_zero hq hr', bq.prod br, k⟩
inductive NoW (H : Hp) : V → Prop where
  | non : NoW H .non
  | bl (b : Bool) : NoW H (.bl b)
  | str (z : Str) : NoW H (.str z)
  | lst {a : Addr} {xs : List V} (e : H a = some (.lst xs)) : NoW H (.ref a)
  | tup {a : Addr} {xs : List V} (e : H a = some (.tup xs)) : NoW H (.ref a)
theorem NoW.same {H H' : Hp} {x : V} (s : Same H H') : NoW H x → NoW H' x
  | .non => .non
  | .bl b => .bl b
  | .str z => .str z
  | .lst e => .lst (s _ _ e)
  | .tup e => .tup (s _ _ e)
def WhB (H : Hp) (x : V) (b : Bool) : Prop := (∃ i : Int, x = .int i ∧ b = true) ∨ (NoW H x ∧ b = false)
theorem WhB.int {H : Hp} (i : Int) : WhB H (.int i) true := .inl ⟨i, rfl, rfl⟩
theorem WhB.no {H : Hp} {x : V} (h : NoW H x) : WhB H x false := .inr ⟨h, rfl⟩
theorem WhB.ty {H : Hp} {x : V} {b : Bool} (h : WhB H x b) : ∃ t i c, kQ K H x t ∧ W.kitOne K t (.type "int") = some i ∧ W.kitOne K t (.type "bool") = some c ∧ b = (i && !c) := by
  rcases h with ⟨i, rfl, rfl⟩ | ⟨h, rfl⟩
  · exact ⟨_, true, false, .int i, by kernel_rfl, by kernel_rfl, rfl⟩
  · cases h with
    | non => exact ⟨_, false, false, .non, by kernel_rfl, by kernel_rfl, rfl⟩
    | bl b => exact ⟨_, true, true, .bl b, by kernel_rfl, by kernel_rfl, rfl⟩
    | str z => exact ⟨_, false, false, .str z, by kernel_rfl, by kernel_rfl, rfl⟩
    | lst e => exact ⟨_, false, false, .lst e, by kernel_rfl, by kernel_rfl, rfl⟩
    | tup e => exact ⟨_, false, false, .tup e, by kernel_rfl, by kernel_rfl, rfl⟩
def zZ : Sp := fun vs H Q _ => ∃ (x : V) (b : Bool), vs = [x] ∧ WhB H x b ∧ Q (.bl b) H
theorem xA (T : Tx K mg a) : FnOk P w K mg base CX0 1 a.a_is_whole a.f_is_whole ["x"] zZ := by
  refine T.d_is_whole.F.ok xo (fun vs H Q E h => ?_) (fun cdv A outer s H vs Q E hr h => ?_)
  · obtain ⟨x, b, rfl, _⟩ := h
    rfl
  obtain ⟨x, b, rfl, hx, q⟩ := h
  refine ⟨_, (qH (qX (kA (qR qg rfl T.b_isinstance rfl (qA (pv 0) (qA (xV rfl T.b_int rfl) qC))) (kM (wS (qR qg rfl T.b_isinstance rfl (qA (pv 0) (qA (xV rfl T.b_bool rfl) qC)))))))), ?_⟩
  try dsimp only [j8, jH]
  obtain ⟨t, i, c, ty, e1, e2, rfl⟩ := hx.ty (K := K)
  refine ⟨_, rfl, _, _, _, i, rfl, ty, ⟨_, .inl ⟨rfl, e1⟩⟩, i, rfl, ?_⟩
  cases i with
  | false => exact jR q
  | true => exact x9 ⟨_, rfl, _, _, _, c, rfl, ty, ⟨_, .inl ⟨rfl, e2⟩⟩, c, rfl, q⟩
inductive FrB (K : W.Frag) (H : Hp) : V → Bool → Prop where
  | no {x : V} {t : Value} (ty : kQ K H x t) (e : W.kitOne K t (.type "tuple") = some false) : FrB K H x false
  | len {z : Addr} {xs : List V} (e : H z = some (.tup xs)) (h : xs.length ≠ 2) : FrB K H (.ref z) false
  | one {z : Addr} {x y : V} (e : H z = some (.tup [x, y])) (h : NoW H x) : FrB K H (.ref z) false
  | two {z : Addr} {i : Int} {y : V} (e : H z = some (.tup [.int i, y])) (h : NoW H y) : FrB K H (.ref z) false
  | nums {z : Addr} {p q : Int} (e : H z = some (.tup [.int p, .int q])) : FrB K H (.ref z) (decide (1 ≤ q) && decide (Int.gcd p q = 1))
def zB (K : W.Frag) : Sp := fun vs H Q _ => ∃ (x : V) (b : Bool), vs = [x] ∧ FrB K H x b ∧ Q (.bl b) H
theorem zF (T : Tx K mg a) : FnOk P w K mg base CX0 2 a.a_is_fraction a.f_is_fraction ["x"] (zB K) := by
  refine T.d_is_fraction.F.ok zD (fun vs H Q E h => ?_) (fun cdv A outer s H vs Q E hr h => ?_)
  · obtain ⟨x, b, rfl, _⟩ := h
    rfl
  obtain ⟨x, b, rfl, hx, k⟩ := h
  refine ⟨_, (qG (jQ (PW.pt (jf (jI (jF (qR qg rfl T.b_isinstance rfl (qA (pv 0) (qA (xV rfl T.b_tuple rfl) qC))))) (ja (qM xW (qR qo rfl T.b_len rfl (qA (pv 0) qC)) qB (qN _))))) (qH (qX xa)) qc)
      (qG (jQ (PW.pt (jf (jI (jF (qS T.d_is_whole (xA T) hr rfl (qA (qK qJ (pv 0) qB (fun _ _ => rfl)) qC)))) (ja (jI (jF (qS T.d_is_whole (xA T) hr rfl (qA (qK qJ (pv 0) qB (fun _ _ => rfl)) qC))))))) (qH (qX xa)) qc)
      (qH (qX (kA (jq qB0 (qK qJ (pv 0) qB (fun _ _ => rfl)) qB (qN _)) (kM (jq jp (qS T.d_common_divisor (jg T) hr rfl (qA (qK qJ (pv 0) qB (fun _ _ => rfl)) (qA (qK qJ (pv 0) qB (fun _ _ => rfl)) qC))) qB (qN _)))))))), ?_⟩
  try dsimp only [j8, jH]
  cases hx with
  | no ty e => exact ⟨_, rfl, _, _, _, false, rfl, ty, ⟨_, .inl ⟨rfl, e⟩⟩, false, rfl, x9 (x9 k)⟩
  | @len z xs e h =>
    refine ⟨_, rfl, _, _, _, true, rfl, .tup e, ⟨_, .inl ⟨rfl, by kernel_rfl⟩⟩, true, rfl, jR ?_⟩
    refine ⟨_, rfl, _, _, rfl, .inr (SqT.of e), rfl, _, rfl, ?_⟩
    have d : (!decide (V.int (xs.length : Int) = V.int 2)) = true := by
      have : ¬ (V.int (xs.length : Int) = V.int 2) := fun z => h (by injection z with z; omega)
      simp [this]
    rw [d]
    exact x9 k
  | @one z x y e h =>
    refine ⟨_, rfl, _, _, _, true, rfl, .tup e, ⟨_, .inl ⟨rfl, by kernel_rfl⟩⟩, true, rfl, jR ?_⟩
    refine ⟨_, rfl, _, _, rfl, .inr (SqT.of e), rfl, _, rfl, jR ?_⟩
    exact ⟨_, rfl, _, _, _, _, rfl, rfl, SqT.of e, at0, x, false, rfl, .no h, false, rfl, x9 (x9 k)⟩
  | @two z i y e h =>
    refine ⟨_, rfl, _, _, _, true, rfl, .tup e, ⟨_, .inl ⟨rfl, by kernel_rfl⟩⟩, true, rfl, jR ?_⟩
    refine ⟨_, rfl, _, _, rfl, .inr (SqT.of e), rfl, _, rfl, jR ?_⟩
    refine ⟨_, rfl, _, _, _, _, rfl, rfl, SqT.of e, at0, _, true, rfl, .int i, true, rfl, jR ?_⟩
    exact ⟨_, rfl, _, _, _, _, rfl, rfl, SqT.of e, at1, y, false, rfl, .no h, false, rfl, x9 k⟩
  | @nums z p q e =>
    refine ⟨_, rfl, _, _, _, true, rfl, .tup e, ⟨_, .inl ⟨rfl, by kernel_rfl⟩⟩, true, rfl, jR ?_⟩
    refine ⟨_, rfl, _, _, rfl, .inr (SqT.of e), rfl, _, rfl, jR ?_⟩
    refine ⟨_, rfl, _, _, _, _, rfl, rfl, SqT.of e, at0, _, true, rfl, .int p, true, rfl, jR ?_⟩
    refine ⟨_, rfl, _, _, _, _, rfl, rfl, SqT.of e, at1, _, true, rfl, .int q, true, rfl, jR ?_⟩
    refine ⟨_, rfl, _, _, _, _, rfl, rfl, SqT.of e, at1, _, _, rfl, rfl, decide (1 ≤ q), rfl, ?_⟩
    by_cases hq : 1 ≤ q
    · rw [decide_eq_true hq] at k ⊢
      refine x9 ⟨_, rfl, _, _, _, _, rfl, rfl, SqT.of e, at0, _, rfl, _, _, _, _, rfl, rfl, SqT.of e, at1, p, q, rfl, rfl, ?_⟩
      have d : decide (V.int ((Int.gcd p q : Nat) : Int) = V.int 1) = (true && decide (Int.gcd p q = 1)) := by
        rw [Bool.true_and, Bool.eq_iff_iff, decide_eq_true_eq, decide_eq_true_eq]
        constructor
        · intro z; injection z with z; omega
        · intro z; rw [z]; rfl
      rw [d]
      exact k
    · rw [decide_eq_false hq] at k ⊢
      exact jR k
def kG (K : W.Frag) : Sp := fun vs H Q _ => ∃ (x y : V) (p q r s : Int), vs = [x, y] ∧ Pr K H x p q ∧ Pr K H y r s ∧ Sm p ∧ Sm q ∧ Sm r ∧ Sm s ∧ Q (.bl (decide (p * s < r * q))) H
theorem kC (T : Tx K mg a) : FnOk P w K mg base CX0 1 a.a_is_before a.f_is_before ["one", "other"] (kG K) := by
  refine T.d_is_before.F.ok kH (fun vs H Q E h => ?_) (fun cdv A outer s H vs Q E hr h => ?_)
  · obtain ⟨x, y, p, q, r, s, rfl, _⟩ := h
    rfl
  obtain ⟨x, y, p, q, r, s', rfl, ⟨z1, rfl, h1⟩, ⟨z2, rfl, h2⟩, bp, bq, br, bs, k⟩ := h
  refine ⟨_, (qH (qX (jq vz (qI qp (qK qJ (pv 0) qB (fun _ _ => rfl)) (qK qJ (pv 1) qB (fun _ _ => rfl))) (qI qp (qK qJ (pv 1) qB (fun _ _ => rfl)) (qK qJ (pv 0) qB (fun _ _ => rfl))) (qN _)))), ?_⟩
  try dsimp only [j8, jH]
  refine ⟨_, rfl, _, _, _, _, rfl, rfl, h1, at0, _, rfl, _, _, _, _, rfl, rfl, h2, at1, _, _, rfl, rfl, bp.mul bs, ?_⟩
  exact ⟨_, rfl, _, _, _, _, rfl, rfl, h2, at0, _, rfl, _, _, _, _, rfl, rfl, h1, at1, _, _, rfl, rfl, br.mul bq, _, _, rfl, rfl, k⟩
def vY (K : W.Frag) : Sp := fun vs H Q _ => ∃ (x : V) (p q : Int), vs = [x] ∧ Pr K H x p q ∧ q ≠ 0 ∧ qBn H Q (p.fmod q) q
theorem vf (T : Tx K mg a) : FnOk P w K mg base CX0 1 a.a_rest_of a.f_rest_of ["one"] (vY K) := by
  refine T.d_rest_of.F.ok vd (fun vs H Q E h => ?_) (fun cdv A outer s H vs Q E hr h => ?_)
  · obtain ⟨x, p, q, rfl, _⟩ := h
    rfl
  obtain ⟨x, p, q, rfl, ⟨z1, rfl, h1⟩, hq, k⟩ := h
  refine ⟨_, (qH (qX (qf (qA (qI qU (qK qJ (pv 0) qB (fun _ _ => rfl)) (qK qJ (pv 0) qB (fun _ _ => rfl))) (qA (qK qJ (pv 0) qB (fun _ _ => rfl)) qC))))), ?_⟩
  try dsimp only [j8, jH]
  exact ⟨_, rfl, _, _, _, _, rfl, rfl, h1, at0, _, rfl, _, _, _, _, rfl, rfl, h1, at1, _, _, rfl, rfl, hq, _, rfl, _, _, _, _, rfl, rfl, h1, at1, sL2, k⟩
theorem jE {i j : Int} {n m : Nat} (h1 : i.natAbs < 2 ^ n) (h2 : j.natAbs < 2 ^ m) : (i * j).natAbs < 2 ^ (n + m) := by
  rw [Int.natAbs_mul, Nat.pow_add]
  exact Nat.mul_lt_mul'' h1 h2
structure Bn (n : Nat) (p q r s : Int) : Prop where
  q0 : 0 < q
  s0 : 0 < s
  bp : p.natAbs < 2 ^ n
  bq : q.natAbs < 2 ^ n
  br : r.natAbs < 2 ^ n
  bs : s.natAbs < 2 ^ n
theorem x6 {i : Int} {n m : Nat} (h : i.natAbs < 2 ^ n) (l : n ≤ m := by decide) : i.natAbs < 2 ^ m := Nat.lt_of_lt_of_le h (Nat.pow_le_pow_right (by decide) l)
theorem Bn.mono {n m : Nat} {p q r s : Int} (h : Bn n p q r s) (l : n ≤ m := by decide) : Bn m p q r s := ⟨h.q0, h.s0, x6 h.bp l, x6 h.bq l, x6 h.br l, x6 h.bs l⟩
theorem Bn.part {p q r s k : Int} (h : Bn 110 p q r s) (hk : k.natAbs < 2 ^ 30) : Bn 340 (plP p q r s k) (plQ p q r s k) r s := by
  obtain ⟨hq, hs, bp, bq, br, bs⟩ := h
  refine ⟨qB5 hq hs, hs, Nat.lt_of_le_of_lt (qBf hq hs) ?_, Nat.lt_of_le_of_lt (qA1 hq hs) (x6 (jE bq bs)), x6 br, x6 bs⟩
  have h1 := jE bp bs
  have h2 := jE (jE hk br) bq
  have e : (2 : Nat) ^ (110 + 110) + 2 ^ (30 + 110 + 110) ≤ 2 ^ 340 := by decide
  omega
theorem qC2 {i : Int} {n : Nat} (h : i.natAbs < 2 ^ n) (l : n ≤ 8000 := by decide) : i.natAbs < 2 ^ 8000 := x6 h l
def x8 (K : W.Frag) : Sp := fun vs H Q _ => ∃ (z : Addr) (ns : List Int) (i : Int), vs = [.ref z, .int i] ∧ SqL K H z (ns.map V.int) ∧ ns.length ≤ 63 ∧ 0 ≤ i ∧ ∀ c : Int, Q (.int c) H
theorem ju (T : Tx K mg a) : FnOk P w K mg base CX0 1 a.a__law_cell_at a.f__law_cell_at ["_law_script", "_law_k"] (x8 K) := by
  refine T.d__law_cell_at.F.ok xp (fun vs H Q E h => ?_) (fun cdv A outer s H vs Q E hr h => ?_)
  · obtain ⟨z, ns, i, rfl, _⟩ := h
    rfl
  obtain ⟨z, ns, i, rfl, hS, hl, h0, k⟩ := h
  refine ⟨_, (qG (jQ (qM vz (pv 1) (qR qo rfl T.b_len rfl (qA (pv 0) qC)) (qN _)) (qH (qX (qK qZ (pv 0) (pv 1) (fun _ _ => rfl)))) qc)
      (qH (qX qB))), ?_⟩
  try dsimp only [j8, jH]
  have hml : (ns.map V.int).length = ns.length := List.length_map _
  refine ⟨_, rfl, _, rfl, z, _, rfl, .inl hS, _, _, rfl, rfl, _, rfl, ?_⟩
  refine zH (fun c => ?_) (fun _ => ?_)
  · have c' : i < ((ns.map V.int).length : Int) := of_decide_eq_true c
    rw [hml] at c'
    have hi : i.toNat < ns.length := by omega
    have e : i = ((i.toNat : Nat) : Int) := by omega
    have hat : atI (ns.map V.int) ((i.toNat : Nat) : Int) = some (.int ns[i.toNat]) := zd (by rw [List.getElem?_map, List.getElem?_eq_getElem hi]; rfl)
    rw [← e] at hat
    exact ⟨_, rfl, _, rfl, z, _, _, .int ns[i.toNat], rfl, rfl, hS, hat, k _⟩
  · exact k 0
theorem wv (ns : List Int) (lo hi : Option Int) : ∃ ms : List Int, qAd (ns.map V.int) lo hi = ms.map V.int ∧ ms.length ≤ ns.length := by
  refine ⟨(ns.drop (HT.sIx (ns.map V.int).length 0 lo)).take (HT.sIx (ns.map V.int).length (ns.map V.int).length hi - HT.sIx (ns.map V.int).length 0 lo), ?_, ?_⟩
  · unfold qAd
    rw [List.map_take, List.map_drop]
  · rw [List.length_take, List.length_drop]; omega
inductive Im where
  | clip (n : Str) (p q r s l : Int)
  | nest (n : Str) (b l : Int)
  | gap (l : Int)
  | mix (l : Int)
def Im.d : Im → D
  | .clip n p q r s l => .tup [.leaf (.str "clip"), .leaf (.str n), .tup [.leaf (.int p), .leaf (.int q)], .tup [.leaf (.int r), .leaf (.int s)], .leaf (.int l)]
  | .nest n b l => .tup [.leaf (.str "nest"), .leaf (.str n), .leaf (.int b), .leaf (.int l)]
  | .gap l => .tup [.leaf (.str "gap"), .leaf (.int l)]
  | .mix l => .tup [.leaf (.str "mix"), .leaf (.int l)]
def Im.wd : Im → Str
  | .clip .. => "clip"
  | .nest .. => "nest"
  | .gap _ => "gap"
  | .mix _ => "mix"
def Im.l : Im → Int
  | .clip _ _ _ _ _ l => l
  | .nest _ _ l => l
  | .gap l => l
  | .mix l => l
def TS (H H' : Hp) : Prop := ∀ b xs, H b = some (.tup xs) → H' b = some (.tup xs)
theorem TS.refl (H : Hp) : TS H H := fun _ _ h => h
theorem TS.trans {H H1 H2 : Hp} (a : TS H H1) (b : TS H1 H2) : TS H H2 := fun c o h => b c o (a c o h)
theorem qO {H H' : Hp} (e : Same H H') : TS H H' := fun _ _ h => e _ _ h
theorem xm {H : Hp} {l : Addr} {xs : List V} {o : HO} (h : H l = some (.lst xs)) : TS H (upd H l o) := fun b ys hb => by
  rw [qP (qC4 hb h (by intro z; cases z))]; exact hb
theorem xE {H H' : Hp} {y : Addr} {o : HO} (e : Same H H') (h : H y = none) : Same H (upd H' y o) := fun b u hb => by
  rw [qP (qL hb h)]; exact e b u hb
def IsI (H : Hp) : Im → V → Prop
  | .clip n p q r s l, v => ∃ z x y : Addr, v = .ref z ∧ H z = some (.tup [.str "clip", .str n, .ref x, .ref y, .int l]) ∧ H x = some (.tup [.int p, .int q]) ∧ H y = some (.tup [.int r, .int s])
  | .nest n b l, v => ∃ z : Addr, v = .ref z ∧ H z = some (.tup [.str "nest", .str n, .int b, .int l])
  | .gap l, v => ∃ z : Addr, v = .ref z ∧ H z = some (.tup [.str "gap", .int l])
  | .mix l, v => ∃ z : Addr, v = .ref z ∧ H z = some (.tup [.str "mix", .int l])
theorem isM {H : Hp} {z : Addr} {l : Int} (h : H z = some (.tup [.str "mix", .int l])) : IsI H (.mix l) (.ref z) := ⟨z, rfl, h⟩
theorem IsI.ts {H H' : Hp} (e : TS H H') : ∀ {m : Im} {v : V}, IsI H m v → IsI H' m v
  | .clip .., _, ⟨z, x, y, h, hz, hx, hy⟩ => ⟨z, x, y, h, e _ _ hz, e _ _ hx, e _ _ hy⟩
  | .nest .., _, ⟨z, h, hz⟩ => ⟨z, h, e _ _ hz⟩
  | .gap _, _, ⟨z, h, hz⟩ => ⟨z, h, e _ _ hz⟩
  | .mix _, _, ⟨z, h, hz⟩ => ⟨z, h, e _ _ hz⟩
theorem IsI.opn {H : Hp} {m : Im} {v : V} (h : IsI H m v) : ∃ (z : Addr) (xs : List V), v = .ref z ∧ H z = some (.tup xs) ∧ atI xs 0 = some (.str m.wd) ∧ atI xs (-1) = some (.int m.l) := by
  cases m with
  | clip n p q r s l => obtain ⟨z, x, y, h, hz, _⟩ := h; exact ⟨z, _, h, hz, rfl, rfl⟩
  | nest n b l => obtain ⟨z, h, hz⟩ := h; exact ⟨z, _, h, hz, rfl, rfl⟩
  | gap l => obtain ⟨z, h, hz⟩ := h; exact ⟨z, _, h, hz, rfl, rfl⟩
  | mix l => obtain ⟨z, h, hz⟩ := h; exact ⟨z, _, h, hz, rfl, rfl⟩
theorem zg {H : Hp} : ∀ {xs : List V}, xs.all jv = true → Reps K H (xs.map D.leaf) xs
  | [], _ => by simp [Reps]
  | x :: xs, h => by
    rw [List.all_cons, Bool.and_eq_true] at h
    rw [List.map_cons]; unfold Reps Rep
    exact ⟨⟨rfl, h.1⟩, zg h.2⟩
theorem jN {H : Hp} {z : Addr} {xs : List V} (hz : H z = some (.tup xs)) (h : xs.all jv = true) : Rep K H (.tup (xs.map D.leaf)) (.ref z) := by
  unfold Rep
  exact ⟨z, xs, rfl, SqT.of hz, zg h⟩
theorem IsI.rep {H : Hp} : ∀ {m : Im} {v : V}, IsI H m v → Rep K H m.d v
  | .clip n p q r s l, _, ⟨z, x, y, h, hz, hx, hy⟩ => by
    subst h
    have h1 : Rep K H (.tup [.leaf (.int p), .leaf (.int q)]) (.ref x) := jN hx rfl
    have h2 : Rep K H (.tup [.leaf (.int r), .leaf (.int s)]) (.ref y) := jN hy rfl
    unfold Im.d Rep
    refine ⟨z, _, rfl, SqT.of hz, ?_⟩
    unfold Reps Reps Reps Reps Reps Reps
    refine ⟨?_, ?_, h1, h2, ?_, trivial⟩
    · unfold Rep; exact ⟨rfl, rfl⟩
    · unfold Rep; exact ⟨rfl, rfl⟩
    · unfold Rep; exact ⟨rfl, rfl⟩
  | .nest n b l, _, ⟨z, h, hz⟩ => by subst h; exact jN hz rfl
  | .gap l, _, ⟨z, h, hz⟩ => by subst h; exact jN hz rfl
  | .mix l, _, ⟨z, h, hz⟩ => by subst h; exact jN hz rfl
theorem wn (m : Im) : eqD m.d m.d = true := by
  cases m <;> simp [Im.d, eqD, xN, eqV]
theorem qCr (m : Im) : dep m.d ≤ 2 := by
  cases m <;> simp [Im.d, dep, zm]
def IsIs (H : Hp) : List Im → List V → Prop
  | [], [] => True
  | m :: ms, v :: vs => IsI H m v ∧ IsIs H ms vs
  | _, _ => False
theorem IsIs.len {H : Hp} : ∀ {ms : List Im} {vs : List V}, IsIs H ms vs → vs.length = ms.length
  | [], [], _ => rfl
  | _ :: _, _ :: _, h => by rw [List.length_cons, List.length_cons, IsIs.len h.2]
  | [], _ :: _, h => h.elim
  | _ :: _, [], h => h.elim
theorem IsIs.ts {H H' : Hp} (e : TS H H') : ∀ {ms : List Im} {vs : List V}, IsIs H ms vs → IsIs H' ms vs
  | [], [], _ => trivial
  | _ :: _, _ :: _, h => ⟨IsI.ts e h.1, IsIs.ts e h.2⟩
  | [], _ :: _, h => h.elim
  | _ :: _, [], h => h.elim
theorem IsIs.get {H : Hp} : ∀ {ms : List Im} {vs : List V} {i : Nat} {v : V}, IsIs H ms vs → vs[i]? = some v → ∃ m, ms[i]? = some m ∧ IsI H m v
  | [], [], _, _, _, h => by simp at h
  | m :: _, x :: _, 0, v, h, e => by
    have e' : x = v := by simpa using e
    subst e'
    exact ⟨m, rfl, h.1⟩
  | _ :: ms, _ :: vs, i + 1, v, h, e => by
    obtain ⟨m, h1, h2⟩ := IsIs.get (i := i) h.2 (by simpa using e)
    exact ⟨m, by simpa using h1, h2⟩
  | [], _ :: _, _, _, h, _ => h.elim
  | _ :: _, [], _, _, h, _ => h.elim
theorem IsIs.get' {H : Hp} {ms : List Im} {vs : List V} {i : Nat} {m : Im} (h : IsIs H ms vs) (e : ms[i]? = some m) : ∃ v, vs[i]? = some v ∧ IsI H m v := by
  have hi : i < vs.length := by rw [h.len]; exact (glt e)
  have ev : vs[i]? = some vs[i] := List.getElem?_eq_getElem hi
  obtain ⟨m', h1, h2⟩ := h.get ev
  rw [e] at h1
  cases h1
  exact ⟨_, ev, h2⟩
theorem IsIs.app {H : Hp} : ∀ {ms : List Im} {vs : List V} {ms' : List Im} {vs' : List V}, IsIs H ms vs → IsIs H ms' vs' → IsIs H (ms ++ ms') (vs ++ vs')
  | [], [], _, _, _, h' => h'
  | _ :: _, _ :: _, _, _, h, h' => ⟨h.1, h.2.app h'⟩
  | [], _ :: _, _, _, h, _ => h.elim
  | _ :: _, [], _, _, h, _ => h.elim
theorem IsIs.one {H : Hp} {m : Im} {v : V} (h : IsI H m v) : IsIs H [m] [v] := ⟨h, trivial⟩
theorem IsIs.rep {H : Hp} : ∀ {ms : List Im} {vs : List V}, IsIs H ms vs → Reps K H (ms.map Im.d) vs
  | [], [], _ => by unfold List.map Reps; trivial
  | _ :: _, _ :: _, h => by unfold List.map Reps; exact ⟨h.1.rep, h.2.rep⟩
  | [], _ :: _, h => h.elim
  | _ :: _, [], h => h.elim
theorem kJ : ∀ ms : List Im, xN (ms.map Im.d) (ms.map Im.d) = true
  | [] => by simp [xN]
  | m :: ms => by unfold List.map xN; rw [wn, kJ ms]; rfl
theorem vN : ∀ ms : List Im, zm (ms.map Im.d) ≤ 2
  | [] => by simp [zm]
  | m :: ms => by
    have h1 := qCr m
    have h2 := vN ms
    unfold List.map zm
    omega
def Tr (H : Hp) (z : Addr) (ms : List Im) : Prop := ∃ vs, H z = some (.lst vs) ∧ IsIs H ms vs
theorem Tr.same {H H' : Hp} {z : Addr} {ms : List Im} (e : Same H H') (h : Tr H z ms) : Tr H' z ms := let ⟨vs, h1, h2⟩ := h; ⟨vs, e _ _ h1, h2.ts (qO e)⟩
theorem Tr.rep {H : Hp} {z : Addr} {ms : List Im} (h : Tr H z ms) : Rep K H (.lst (ms.map Im.d)) (.ref z) := by
  obtain ⟨vs, h1, h2⟩ := h
  unfold Rep
  exact ⟨z, vs, rfl, SqL.of h1, h2.rep⟩
theorem qDs {H : Hp} {x y : Addr} {ms : List Im} {Q : VK} (h1 : Tr H x ms) (h2 : Tr H y ms) (q : Q (.bl false) H) : qBo K true (.ref x) (.ref y) H Q := by
  refine ⟨_, _, h1.rep, h2.rep, rfl, by have := vN ms; unfold dep; omega, ?_⟩
  have e : eqD (.lst (ms.map Im.d)) (.lst (ms.map Im.d)) = true := by unfold eqD; exact kJ ms
  rw [e]
  exact q
theorem qCz {H : Hp} {x y : Addr} {ms : List Im} {Q : VK} (h1 : Tr H x ms) (h2 : H y = some (.lst [])) (q : Q (.bl ms.isEmpty) H) : qBo K false (.ref x) (.ref y) H Q := by
  refine ⟨_, .lst [], h1.rep, ?_, rfl, by have := vN ms; unfold dep; omega, ?_⟩
  · unfold Rep; exact ⟨y, [], rfl, SqL.of h2, by unfold Reps; trivial⟩
  · have e : eqD (.lst (ms.map Im.d)) (.lst []) = ms.isEmpty := by cases ms <;> simp [eqD, xN]
    rw [e]
    exact q
theorem qCl {H : Hp} {x y : Addr} {ms : List Im} {Q : VK} (h1 : Tr H x ms) (h2 : H y = some (.lst [])) (q : Q (.bl (!ms.isEmpty)) H) : qBo K true (.ref x) (.ref y) H Q := by
  refine ⟨_, .lst [], h1.rep, ?_, rfl, by have := vN ms; unfold dep; omega, ?_⟩
  · unfold Rep; exact ⟨y, [], rfl, SqL.of h2, by unfold Reps; trivial⟩
  · have e : eqD (.lst (ms.map Im.d)) (.lst []) = ms.isEmpty := by cases ms <;> simp [eqD, xN]
    rw [e]
    exact q
theorem IsIs.dl {H : Hp} : ∀ {ms : List Im} {vs : List V}, IsIs H ms vs → IsIs H ms.dropLast vs.dropLast
  | [], [], _ => trivial
  | [_], [_], _ => trivial
  | _ :: _ :: _, _ :: _ :: _, h => ⟨h.1, IsIs.dl h.2⟩
  | [], _ :: _, h => h.elim
  | _ :: _, [], h => h.elim
  | [_], _ :: _ :: _, h => h.2.elim
  | _ :: _ :: _, [_], h => h.2.elim
theorem IsIs.last {H : Hp} {ms : List Im} {vs : List V} (h : IsIs H ms vs) (hne : ms ≠ []) : ∃ v m, vs[vs.length - 1]? = some v ∧ ms.getLast? = some m ∧ m ∈ ms ∧ IsI H m v := by
  have hl : 0 < ms.length := List.length_pos_iff.mpr hne
  have hi : vs.length - 1 < vs.length := by rw [h.len]; omega
  have ev : vs[vs.length - 1]? = some vs[vs.length - 1] := List.getElem?_eq_getElem hi
  obtain ⟨m, h1, h2⟩ := h.get ev
  refine ⟨_, m, ev, ?_, List.mem_of_getElem? h1, h2⟩
  rw [h.len] at h1
  rw [List.getLast?_eq_getElem?]
  exact h1
theorem qC5 {m : Im} (h : m.wd = "gap") : ∃ l, m = .gap l := by
  cases m with
  | gap l => exact ⟨l, rfl⟩
  | clip => exact absurd (show ("clip" : Str) = "gap" from h) (by decide +kernel)
  | nest => exact absurd (show ("nest" : Str) = "gap" from h) (by decide +kernel)
  | mix => exact absurd (show ("mix" : Str) = "gap" from h) (by decide +kernel)
def Im.mo : Im → Int
  | .mix _ => 0
  | .clip _ _ _ _ _ l => l
  | .nest _ _ l => l
  | .gap l => l
theorem xH {α : Type} {xs : List α} {v : α} (h : xs[xs.length - 1]? = some v) : atI xs (-1) = some v := by
  have hl : 0 < xs.length := by
    have := (glt h)
    omega
  have e : ixN xs.length (-1) = some (xs.length - 1) := by
    unfold ixN
    rw [if_neg (by decide), if_pos (by omega)]
    congr 1
    omega
  unfold atI; rw [e]; exact h
theorem wc {m : Im} (h : m.wd = "mix") : ∃ l, m = .mix l := by
  cases m with
  | mix l => exact ⟨l, rfl⟩
  | clip => exact absurd (show ("clip" : Str) = "mix" from h) (by decide +kernel)
  | nest => exact absurd (show ("nest" : Str) = "mix" from h) (by decide +kernel)
  | gap => exact absurd (show ("gap" : Str) = "mix" from h) (by decide +kernel)
theorem qDk {m : Im} (h : m.wd ≠ "mix") : m.mo = m.l := by
  cases m with
  | mix l => exact absurd rfl h
  | _ => rfl
def zV : Sp := fun vs H Q _ => ∃ (v : V) (m : Im), vs = [v] ∧ IsI H m v ∧ Q (.int m.mo) H
theorem zS (T : Tx K mg a) : FnOk P w K mg base CX0 1 a.a_moments_of a.f_moments_of ["item"] zV := by
  refine T.d_moments_of.F.ok zO (fun vs H Q E h => ?_) (fun cdv A outer s H vs Q E hr h => ?_)
  · obtain ⟨v, m, rfl, _⟩ := h
    rfl
  obtain ⟨v, m, rfl, hI, kk⟩ := h
  refine ⟨_, (qH (qX (vC (qM jp (qK qJ (pv 0) qB (fun _ _ => rfl)) jB (qN _)) qB (qK qJ (pv 0) (xC jc qB) (fun _ _ => rfl))))), ?_⟩
  try dsimp only [j8, jH]
  obtain ⟨z, xs, rfl, hz, h0, h1⟩ := hI.opn
  refine ⟨_, rfl, z, xs, _, _, rfl, rfl, SqT.of hz, h0, rfl, _, rfl, zH (fun c => ?_) (fun c => ?_)⟩
  · obtain ⟨l, rfl⟩ := wc (by simpa using c)
    exact kk
  · rw [qDk (by simpa using c)] at kk
    exact ⟨_, rfl, _, rfl, z, xs, _, _, rfl, rfl, SqT.of hz, h1, kk⟩
inductive RtB (K : W.Frag) (H : Hp) : V → Bool → Prop where
  | no {x : V} (h : FrB K H x false) : RtB K H x false
  | nums {z : Addr} {p q : Int} (e : H z = some (.tup [.int p, .int q])) (hq : 1 ≤ q) (hg : Int.gcd p q = 1) (bp : Sm p) (bq : Sm q) : RtB K H (.ref z) (decide (0 < p))
theorem qBk {H H' : Hp} (s : Same H H') {x : V} {t : Value} (h : kQ K H x t) : kQ K H' x t := by
  cases h with
  | non => exact .non
  | bl x => exact .bl x
  | int i => exact .int i
  | str z => exact .str z
  | flt x => exact .flt x
  | lst e => exact .lst (s _ _ e)
  | frz e => exact .frz (s _ _ e)
  | tup e => exact .tup (s _ _ e)
  | dK e => exact .dK (s _ _ e)
  | dT e => exact .dT (s _ _ e)
  | ins e cl ha hn htk hm => exact .ins (s _ _ e) cl ha hn htk hm
theorem FrB.same {H H' : Hp} (s : Same H H') {x : V} {b : Bool} (h : FrB K H x b) : FrB K H' x b := by
  cases h with
  | no ty e => exact .no (qBk s ty) e
  | len e h => exact .len (s _ _ e) h
  | one e h => exact .one (s _ _ e) (h.same s)
  | two e h => exact .two (s _ _ e) (h.same s)
  | nums e => exact .nums (s _ _ e)
theorem RtB.same {H H' : Hp} (s : Same H H') {x : V} {b : Bool} (h : RtB K H x b) : RtB K H' x b := by
  cases h with
  | no h => exact .no (h.same s)
  | nums e hq hg bp bq => exact .nums (s _ _ e) hq hg bp bq
structure Rate (H : Hp) (x : V) (p q : Int) : Prop where
  ex : ∃ z, x = .ref z ∧ H z = some (.tup [.int p, .int q])
  p0 : 0 < p
  q0 : 0 < q
  g : Int.gcd p q = 1
  bp : p < 1000000
  bq : q < 1000000
theorem xS {i : Int} (h0 : -1000000 < i) (h : i < 1000000) : Sm i := Sm.of200 (Nat.lt_of_lt_of_le (show i.natAbs < 2 ^ 20 by omega) (Nat.pow_le_pow_right (by decide) (by decide)))
theorem Rate.same {H H' : Hp} {x : V} {p q : Int} (s : Same H H') (h : Rate H x p q) : Rate H' x p q := ⟨let ⟨z, e1, e2⟩ := h.ex; ⟨z, e1, s _ _ e2⟩, h.p0, h.q0, h.g, h.bp, h.bq⟩
theorem Rate.rt {H : Hp} {x : V} {p q : Int} (h : Rate H x p q) : RtB K H x true := by
  obtain ⟨z, rfl, e⟩ := h.ex
  have hp := h.p0
  have hq := h.q0
  have bp := h.bp
  have bq := h.bq
  have := RtB.nums (K := K) e (by omega) h.g (xS (by omega) (by omega)) (xS (by omega) (by omega))
  rwa [decide_eq_true hp] at this
theorem Rate.pr {H : Hp} {x : V} {p q : Int} (h : Rate H x p q) : Pr K H x p q := let ⟨z, e1, e2⟩ := h.ex; ⟨z, e1, SqT.of e2⟩
def vS (K : W.Frag) : Sp := fun vs H Q _ => ∃ (x : V) (b : Bool), vs = [x] ∧ RtB K H x b ∧ Q (.bl b) H
theorem j1 (T : Tx K mg a) : FnOk P w K mg base CX0 3 a.a_is_rate a.f_is_rate ["thing"] (vS K) := by
  refine T.d_is_rate.F.ok vj (fun vs H Q E h => ?_) (fun cdv A outer s H vs Q E hr h => ?_)
  · obtain ⟨x, b, rfl, _⟩ := h
    rfl
  obtain ⟨x, b, rfl, hx, k⟩ := h
  refine ⟨_, (qH (qX (kA (qS T.d_is_fraction (zF T) hr rfl (qA (pv 0) qC)) (kM (qS T.d_is_before (kC T) hr rfl (qA (xg (v := .ref a.n_NOUGHT) rfl T.g_NOUGHT rfl) (qA (pv 0) qC))))))), ?_⟩
  try dsimp only [j8, jH]
  cases hx with
  | no h => exact ⟨_, rfl, x, false, rfl, h, false, rfl, jR k⟩
  | @nums z p q e hq hg bp bq =>
    have f := FrB.nums (K := K) e
    have d : (decide (1 ≤ q) && decide (Int.gcd p q = 1)) = true := by rw [hg, decide_eq_true hq]; rfl
    rw [d] at f
    refine ⟨_, rfl, _, true, rfl, f, true, rfl, x9 ?_⟩
    refine ⟨_, rfl, _, _, 0, 1, p, q, rfl, ⟨_, rfl, T.sq_NOUGHT H⟩, ⟨z, rfl, SqT.of e⟩, xS (by decide) (by decide), xS (by decide) (by decide), bp, bq, ?_⟩
    have e : decide (0 * q < p * 1) = decide (0 < p) := by rw [Int.zero_mul, Int.mul_one]
    rw [e]
    exact k
def zC (K : W.Frag) : Sp := fun vs H Q _ => ∃ (x y : V), vs = [x, y] ∧ RtB K H x true ∧ RtB K H y true ∧ Q .non H
theorem zA (T : Tx K mg a) : FnOk P w K mg base CX0 4 a.a_check_rates a.f_check_rates ["rate", "other"] (zC K) := by
  refine T.d_check_rates.F.ok j4 (fun vs H Q E h => ?_) (fun cdv A outer s H vs Q E hr h => ?_)
  · obtain ⟨x, y, rfl, _⟩ := h
    rfl
  obtain ⟨x, y, rfl, hx, hy, k⟩ := h
  refine ⟨_, (qH (jQ (PW.pt (jf (jI (jF (qS T.d_is_rate (j1 T) hr rfl (qA (pv 0) qC)))) (ja (jI (jF (qS T.d_is_rate (j1 T) hr rfl (qA (pv 1) qC))))))) xD qc)), ?_⟩
  try dsimp only [j8, jH]
  refine ⟨_, rfl, x, true, rfl, hx, true, rfl, jR ?_⟩
  exact ⟨_, rfl, y, true, rfl, hy, true, rfl, jR k⟩
def xh (K : W.Frag) (N : Addr) : Sp := fun vs H _ E => ∃ (x y : V) (b c : Bool), vs = [x, y] ∧ RtB K H x b ∧ RtB K H y c ∧ (b && c) = false ∧ E (.ref N) none H
theorem xx (T : Tx K mg a) : FnOk P w K mg base (CXR P w) 4 a.a_check_rates a.f_check_rates ["rate", "other"] (xh K a.k_NoNumber) := by
  refine okX T.d_check_rates.F j4 (fun vs H Q E h => ?_) (fun cdv A outer s H vs Q E hr h => ?_)
  · obtain ⟨x, y, b, c, rfl, _⟩ := h
    rfl
  obtain ⟨x, y, b, c, rfl, hx, hy, hbc, k⟩ := h
  refine ⟨_, (qH (jQ (PW.pt (jf (jI (jF (qS T.d_is_rate (j1 T) hr rfl (qA (pv 0) qC)))) (ja (jI (jF (qS T.d_is_rate (j1 T) hr rfl (qA (pv 1) qC))))))) (qH (wY rfl rfl T.c_NoNumber T.x_NoNumber (qA jB qC))) qc)), ?_⟩
  try dsimp only [j8, jH]
  have one : (1 : Nat) ≤ sizeLine := by decide
  cases b with
  | false => exact ⟨_, rfl, x, false, rfl, hx, false, rfl, x9 (x9 ⟨one, k⟩)⟩
  | true =>
    cases c with
    | true => cases hbc
    | false => exact ⟨_, rfl, x, true, rfl, hx, true, rfl, jR ⟨_, rfl, y, false, rfl, hy, false, rfl, x9 ⟨one, k⟩⟩⟩
def whD : Option Im → D
  | none => .tup [.leaf (.str "end")]
  | some (.clip n p q r s _) => .tup [.leaf (.str "clip"), .leaf (.str n), .tup [.leaf (.int p), .leaf (.int q)], .tup [.leaf (.int r), .leaf (.int s)]]
  | some (.nest n b _) => .tup [.leaf (.str "nest"), .leaf (.str n), .leaf (.int b)]
  | some (.gap _) => .tup [.leaf (.str "gap")]
  | some (.mix l) => .tup [.leaf (.str "mix"), .leaf (.int l)]
def WhV (K : W.Frag) (H : Hp) : Option Im → V → Prop
  | none, v => ∃ z, v = .ref z ∧ (H z = some (.tup [.str "end"]) ∨ ∀ H', SqT K H' z [.str "end"])
  | some (.clip n p q r s _), v => ∃ z x y, v = .ref z ∧ H z = some (.tup [.str "clip", .str n, .ref x, .ref y]) ∧ H x = some (.tup [.int p, .int q]) ∧ H y = some (.tup [.int r, .int s])
  | some (.nest n b _), v => ∃ z, v = .ref z ∧ H z = some (.tup [.str "nest", .str n, .int b])
  | some (.gap _), v => ∃ z, v = .ref z ∧ H z = some (.tup [.str "gap"])
  | some (.mix l), v => ∃ z, v = .ref z ∧ H z = some (.tup [.str "mix", .int l])
theorem qDf {H : Hp} {z : Addr} (h : H z = some (.tup [.str "end"]) ∨ ∀ H', SqT K H' z [.str "end"]) : SqT K H z [.str "end"] := h.elim SqT.of fun h => h H
theorem nm5 : ¬ (HT.sIx 5 0 none = 0 ∧ HT.sIx 5 5 (some (-1)) = 5) := by decide
theorem nm4 : ¬ (HT.sIx 4 0 none = 0 ∧ HT.sIx 4 4 (some (-1)) = 4) := by decide
theorem nm2 : ¬ (HT.sIx 2 0 none = 0 ∧ HT.sIx 2 2 (some (-1)) = 2) := by decide
theorem WhV.ts {H H' : Hp} (e : TS H H') : ∀ {m : Option Im} {v : V}, WhV K H m v → WhV K H' m v
  | none, _, ⟨z, h, hz⟩ => ⟨z, h, hz.imp (fun h => e _ _ h) id⟩
  | some (.clip ..), _, ⟨z, x, y, h, hz, hx, hy⟩ => ⟨z, x, y, h, e _ _ hz, e _ _ hx, e _ _ hy⟩
  | some (.nest ..), _, ⟨z, h, hz⟩ => ⟨z, h, e _ _ hz⟩
  | some (.gap _), _, ⟨z, h, hz⟩ => ⟨z, h, e _ _ hz⟩
  | some (.mix _), _, ⟨z, h, hz⟩ => ⟨z, h, e _ _ hz⟩
theorem qBa {H : Hp} {z : Addr} {xs : List V} (hz : SqT K H z xs) (h : xs.all jv = true) : Rep K H (.tup (xs.map D.leaf)) (.ref z) := by
  unfold Rep
  exact ⟨z, xs, rfl, hz, zg h⟩
theorem WhV.rep {H : Hp} : ∀ {m : Option Im} {v : V}, WhV K H m v → Rep K H (whD m) v
  | none, _, ⟨z, h, hz⟩ => by subst h; exact qBa (qDf hz) rfl
  | some (.clip n p q r s l), _, ⟨z, x, y, h, hz, hx, hy⟩ => by
    subst h
    have h1 : Rep K H (.tup [.leaf (.int p), .leaf (.int q)]) (.ref x) := jN hx rfl
    have h2 : Rep K H (.tup [.leaf (.int r), .leaf (.int s)]) (.ref y) := jN hy rfl
    unfold whD Rep
    refine ⟨z, _, rfl, SqT.of hz, ?_⟩
    unfold Reps Reps Reps Reps Reps
    refine ⟨?_, ?_, h1, h2, trivial⟩
    · unfold Rep; exact ⟨rfl, rfl⟩
    · unfold Rep; exact ⟨rfl, rfl⟩
  | some (.nest n b l), _, ⟨z, h, hz⟩ => by subst h; exact jN hz rfl
  | some (.gap l), _, ⟨z, h, hz⟩ => by subst h; exact jN hz rfl
  | some (.mix l), _, ⟨z, h, hz⟩ => by subst h; exact jN hz rfl
theorem wm (m : Option Im) : eqD (whD m) (whD m) = true := by
  rcases m with _ | m
  · simp [whD, eqD, xN, eqV]
  · cases m <;> simp [whD, eqD, xN, eqV]
theorem qCf (m : Option Im) : dep (whD m) ≤ 2 := by
  rcases m with _ | m
  · simp [whD, dep, zm]
  · cases m <;> simp [whD, dep, zm]
theorem WhV.tup {H : Hp} : ∀ {m : Option Im} {v : V}, WhV K H m v → ∃ z xs, v = .ref z ∧ SqT K H z xs
  | none, _, ⟨z, h, hz⟩ => ⟨z, _, h, qDf hz⟩
  | some (.clip ..), _, ⟨z, _, _, h, hz, _⟩ => ⟨z, _, h, SqT.of hz⟩
  | some (.nest ..), _, ⟨z, h, hz⟩ => ⟨z, _, h, SqT.of hz⟩
  | some (.gap _), _, ⟨z, h, hz⟩ => ⟨z, _, h, SqT.of hz⟩
  | some (.mix _), _, ⟨z, h, hz⟩ => ⟨z, _, h, SqT.of hz⟩
theorem qBz (m : Option Im) : kin (whD m) (whD m) = true := by
  rcases m with _ | m
  · rfl
  · cases m <;> rfl
theorem qDp {H : Hp} {m : Option Im} {x y : V} {Q : VK} (h1 : WhV K H m x) (h2 : WhV K H m y) (q : Q (.bl false) H) : qBo K true x y H Q := by
  refine ⟨_, _, h1.rep, h2.rep, qBz m, by have := qCf m; omega, ?_⟩
  rw [wm]
  exact q
theorem qAs {H : Hp} {m : Im} {v : V} (h : IsI H m v) (hm : m.wd ≠ "mix") : ∃ (z : Addr) (xs : List V), v = .ref z ∧ H z = some (.tup xs) ∧ ¬ (HT.sIx xs.length 0 none = 0 ∧ HT.sIx xs.length xs.length (some (-1)) = xs.length) ∧
    ∀ (t : Addr), H t = none → WhV K (upd H t (.tup (qAd xs none (some (-1))))) (some m) (.ref t) := by
  cases m with
  | clip n p q r s l =>
    obtain ⟨z, x, y, h, hz, hx, hy⟩ := h
    refine ⟨z, _, h, hz, nm5, fun t ht => ⟨t, x, y, rfl, qD, (qE ht _) _ _ hx, (qE ht _) _ _ hy⟩⟩
  | nest n b l =>
    obtain ⟨z, h, hz⟩ := h
    exact ⟨z, _, h, hz, nm4, fun t ht => ⟨t, rfl, qD⟩⟩
  | gap l =>
    obtain ⟨z, h, hz⟩ := h
    exact ⟨z, _, h, hz, nm2, fun t ht => ⟨t, rfl, qD⟩⟩
  | mix l => exact absurd rfl hm
theorem qAp {H : Hp} {l : Int} {v : V} (h : IsI H (.mix l) v) : WhV K H (some (.mix l)) v := let ⟨z, h1, h2⟩ := h; ⟨z, h1, h2⟩
def xJ (K : W.Frag) : Sp := fun vs H Q _ => ∃ (v : V) (m : Im), vs = [v] ∧ IsI H m v ∧ ∀ (u : V) (H' : Hp), Same H H' → WhV K H' (some m) u → Q u H'
theorem xO (T : Tx K mg a) : FnOk P w K mg base CX0 1 a.a_without_length a.f_without_length ["item"] (xJ K) := by
  refine T.d_without_length.F.ok xK (fun vs H Q E h => ?_) (fun cdv A outer s H vs Q E hr h => ?_)
  · obtain ⟨v, m, rfl, _⟩ := h
    rfl
  obtain ⟨v, m, rfl, hI, kk⟩ := h
  refine ⟨_, (qH (qX (vC (qM jp (qK qJ (pv 0) qB (fun _ _ => rfl)) jB (qN _)) (pv 0) (ze qAr (pv 0) v8 (za (xC jc qB)))))), ?_⟩
  try dsimp only [j8, jH]
  obtain ⟨z, xs, rfl, hz, h0, h1⟩ := hI.opn
  refine ⟨_, rfl, z, xs, _, _, rfl, rfl, SqT.of hz, h0, rfl, _, rfl, zH (fun c => ?_) (fun c => ?_)⟩
  · obtain ⟨l, rfl⟩ := wc (by simpa using c)
    exact ⟨_, rfl, kk _ _ (Same.refl _) (qAp hI)⟩
  · obtain ⟨z', xs', e, hz', hn, hw⟩ := qAs (K := K) hI (by simpa using c)
    cases e
    exact ⟨_, rfl, 1, rfl, _, rfl, z, _, rfl, SqT.of hz', hn, fun t ht => kk _ _ (qE ht _) (hw t ht)⟩
def wpP (P Q b : Int) : Int := xM (xM b 1 * P) (jt b 1 * Q)
def wpQ (P Q b : Int) : Int := jt (xM b 1 * P) (jt b 1 * Q)
theorem vq {Q : Int} (b : Int) (h : 0 < Q) : jt b 1 * Q ≠ 0 := Int.mul_ne_zero (by have := jd (t := b) (b := 1) (by decide); omega) (by omega)
theorem xq {P Q b : Int} (h : 0 < Q) : 0 < wpQ P Q b := jd (vq b h)
theorem wM {P Q b : Int} (h : 0 < Q) : Int.gcd (wpP P Q b) (wpQ P Q b) = 1 := qBh (vq b h)
def RowV (K : W.Frag) (H : Hp) (P Q : Int) (r : Int × Option Im) (v : V) : Prop := ∃ z x u, v = .ref z ∧ H z = some (.tup [.int ((wpP P Q r.1).fdiv (wpQ P Q r.1)), .ref x, u]) ∧ H x = some (.tup [.int ((wpP P Q r.1).fmod (wpQ P Q r.1)), .int (wpQ P Q r.1)]) ∧ WhV K H r.2 u
theorem RowV.ts {H H' : Hp} (e : TS H H') {P Q : Int} {r : Int × Option Im} {v : V} (h : RowV K H P Q r v) : RowV K H' P Q r v := let ⟨z, x, u, h1, h2, h3, h4⟩ := h; ⟨z, x, u, h1, e _ _ h2, e _ _ h3, h4.ts e⟩
def RowsV (K : W.Frag) (H : Hp) (P Q : Int) : List (Int × Option Im) → List V → Prop
  | [], [] => True
  | r :: rs, v :: vs => RowV K H P Q r v ∧ RowsV K H P Q rs vs
  | _, _ => False
theorem RowsV.len {H : Hp} {P Q : Int} : ∀ {rs : List (Int × Option Im)} {vs : List V}, RowsV K H P Q rs vs → vs.length = rs.length
  | [], [], _ => rfl
  | _ :: _, _ :: _, h => by rw [List.length_cons, List.length_cons, RowsV.len h.2]
  | [], _ :: _, h => h.elim
  | _ :: _, [], h => h.elim
theorem RowsV.ts {H H' : Hp} (e : TS H H') {P Q : Int} : ∀ {rs : List (Int × Option Im)} {vs : List V}, RowsV K H P Q rs vs → RowsV K H' P Q rs vs
  | [], [], _ => trivial
  | _ :: _, _ :: _, h => ⟨RowV.ts e h.1, RowsV.ts e h.2⟩
  | [], _ :: _, h => h.elim
  | _ :: _, [], h => h.elim
theorem RowsV.get {H : Hp} {P Q : Int} : ∀ {rs : List (Int × Option Im)} {vs : List V} {i : Nat} {v : V}, RowsV K H P Q rs vs → vs[i]? = some v → ∃ r, rs[i]? = some r ∧ RowV K H P Q r v
  | [], [], _, _, _, h => by simp at h
  | m :: _, x :: _, 0, v, h, e => by
    have e' : x = v := by simpa using e
    subst e'
    exact ⟨m, rfl, h.1⟩
  | _ :: ms, _ :: vs, i + 1, v, h, e => by
    obtain ⟨m, h1, h2⟩ := RowsV.get (i := i) h.2 (by simpa using e)
    exact ⟨m, by simpa using h1, h2⟩
  | [], _ :: _, _, _, h, _ => h.elim
  | _ :: _, [], _, _, h, _ => h.elim
theorem RowsV.get' {H : Hp} {P Q : Int} {rs : List (Int × Option Im)} {vs : List V} {i : Nat} {r : Int × Option Im} (h : RowsV K H P Q rs vs) (e : rs[i]? = some r) : ∃ v, vs[i]? = some v ∧ RowV K H P Q r v := by
  have hi : i < vs.length := by rw [h.len]; exact (glt e)
  have ev : vs[i]? = some vs[i] := List.getElem?_eq_getElem hi
  obtain ⟨m', h1, h2⟩ := h.get ev
  rw [e] at h1
  cases h1
  exact ⟨_, ev, h2⟩
theorem RowsV.app {H : Hp} {P Q : Int} : ∀ {ms : List (Int × Option Im)} {vs : List V} {ms' : List (Int × Option Im)} {vs' : List V}, RowsV K H P Q ms vs → RowsV K H P Q ms' vs' → RowsV K H P Q (ms ++ ms') (vs ++ vs')
  | [], [], _, _, _, h' => h'
  | _ :: _, _ :: _, _, _, h, h' => ⟨h.1, h.2.app h'⟩
  | [], _ :: _, _, _, h, _ => h.elim
  | _ :: _, [], _, _, h, _ => h.elim
theorem RowsV.one {H : Hp} {P Q : Int} {r : Int × Option Im} {v : V} (h : RowV K H P Q r v) : RowsV K H P Q [r] [v] := ⟨h, trivial⟩
def wD (K : W.Frag) : Sp := fun vs H Q _ => ∃ (b P R : Int) (y u : V) (m : Option Im), vs = [.int b, y, u] ∧ Pr K H y P R ∧ 0 < R ∧ b.natAbs < 2 ^ 200 ∧ P.natAbs < 2 ^ 200 ∧ R.natAbs < 2 ^ 200 ∧ WhV K H m u ∧ ∀ (v : V) (H' : Hp), Same H H' → RowV K H' P R (b, m) v → Q v H'
theorem zz (T : Tx K mg a) : FnOk P w K mg base CX0 4 a.a_row_at a.f_row_at ["border", "by", "what"] (wD K) := by
  refine T.d_row_at.F.ok sc_row_at (fun vs H Q E h => ?_) (fun cdv A outer s H vs Q E hr h => ?_)
  · obtain ⟨b, P, R, y, u, m, rfl, _⟩ := h
    rfl
  obtain ⟨b, P', R, y, u, m, rfl, hy, hR, bb, bP, bR, hw, kk⟩ := h
  refine ⟨_, (qG (qY (i := 3) sc_row_at.nd rfl (Or.inl rfl) (qS T.d_times_of (kr T) hr rfl (qA (qS T.d_fraction (j5 T) hr rfl (qA (pv 0) (qA qB qC))) (qA (pv 1) qC))))
      (qH (qX (qf (qA (qS T.d_floor_of (kw T) hr rfl (qA (pv 3) qC)) (qA (qS T.d_rest_of (vf T) hr rfl (qA (pv 3) qC)) (qA (pv 2) qC))))))), ?_⟩
  try dsimp only [j8, jH]
  have l1 : (xM b 1).natAbs < 2 ^ 200 := Nat.lt_of_le_of_lt (jz (by decide)) bb
  have l2 : (jt b 1).natAbs < 2 ^ 200 := Nat.lt_of_le_of_lt (jo (by decide)) (by decide)
  have l3 := jd (t := b) (b := 1) (by decide)
  refine ⟨_, rfl, b, 1, rfl, by decide, qC2 (n := 1) (by decide), fun z1 h1 => ?_⟩
  have w1 := qE h1 (.tup [.int (xM b 1), .int (jt b 1)])
  refine ⟨_, rfl, _, _, xM b 1, jt b 1, P', R, rfl, ⟨z1, rfl, SqT.of qD⟩, hy.same w1, by omega, by omega, .of200 l1, .of200 l2, .of200 bP, .of200 bR, fun z2 h2 => ?_⟩
  have w2 := qE h2 (.tup [.int (wpP P' R b), .int (wpQ P' R b)])
  have hq := xq (P := P') (b := b) hR
  have bq : (wpQ P' R b).natAbs < 2 ^ 8000 := by
    refine Nat.lt_of_le_of_lt (jo (vq b hR)) ?_
    exact Sm.prod (.of200 l2) (.of200 bR)
  have p2 : Pr K (upd (upd H z1 (.tup [.int (xM b 1), .int (jt b 1)])) z2 (.tup [.int (wpP P' R b), .int (wpQ P' R b)])) (.ref z2) (wpP P' R b) (wpQ P' R b) := ⟨z2, rfl, SqT.of qD⟩
  refine ⟨_, rfl, _, _, _, rfl, p2, by omega, bq, _, rfl, _, _, _, rfl, p2, by omega, fun z3 h3 => ?_⟩
  have w3 := qE h3 (.tup [.int ((wpP P' R b).fmod (wpQ P' R b)), .int (wpQ P' R b)])
  refine ⟨_, rfl, sL3, fun z4 h4 => ?_⟩
  have w4 := qE h4 (.tup [.int ((wpP P' R b).fdiv (wpQ P' R b)), .ref z3, u])
  exact kk _ _ (((w1.trans w2).trans w3).trans w4) ⟨z4, z3, u, rfl, qD, w4 _ _ qD, hw.ts (qO (((w1.trans w2).trans w3).trans w4))⟩
def pre : Int → List Im → List (Int × Option Im)
  | _, [] => []
  | b, m :: ms => (b, some m) :: pre (b + m.mo) ms
theorem vB : ∀ (ms : List Im) (b : Int) (m : Im), pre b (ms ++ [m]) = pre b ms ++ [(b + (ms.map Im.mo).sum, some m)]
  | [], b, m => by simp [pre]
  | x :: ms, b, m => by
    rw [List.cons_append, pre, vB ms, pre, List.map_cons, List.sum_cons, List.cons_append, Int.add_assoc]
theorem j6 : ∀ (ms : List Im) (b : Int), (pre b ms).length = ms.length
  | [], _ => rfl
  | _ :: ms, _ => by rw [pre, List.length_cons, List.length_cons, j6 ms]
theorem wT : ∀ (ms : List Im) (b : Int) (i : Nat) (m : Im), ms[i]? = some m → (pre b ms)[i]? = some (b + ((ms.take i).map Im.mo).sum, some m)
  | [], _, _, _, h => by simp at h
  | x :: ms, b, 0, m, h => by
    have : x = m := by simpa using h
    subst this
    simp [pre]
  | x :: ms, b, i + 1, m, h => by
    have := wT ms (b + x.mo) i m (by simpa using h)
    rw [pre, List.getElem?_cons_succ, this, List.take_succ_cons, List.map_cons, List.sum_cons, Int.add_assoc]
def je (ms : List Im) : List (Int × Option Im) := pre 0 ms ++ [((ms.map Im.mo).sum, none)]
theorem vF (ms : List Im) : (je ms).length = ms.length + 1 := by unfold je; rw [List.length_append, j6]; rfl
theorem wl {ms : List Im} {i : Nat} {m : Im} (h : ms[i]? = some m) : (je ms)[i]? = some (((ms.take i).map Im.mo).sum, some m) := by
  unfold je
  rw [List.getElem?_append_left (by rw [j6]; exact glt h), wT ms 0 i m h, Int.zero_add]
theorem wg (ms : List Im) : (je ms)[ms.length]? = some ((ms.map Im.mo).sum, none) := by
  unfold je
  rw [List.getElem?_append_right (by rw [j6]; omega), j6, Nat.sub_self]
  rfl
def Bd (ms : List Im) : Prop := ms.length ≤ 200 ∧ ∀ m ∈ ms, 0 ≤ m.mo ∧ m.mo ≤ 10 ^ 30
theorem qAm : ∀ (ms : List Im), (∀ m ∈ ms, 0 ≤ m.mo ∧ m.mo ≤ 10 ^ 30) → 0 ≤ (ms.map Im.mo).sum ∧ (ms.map Im.mo).sum ≤ ms.length * 10 ^ 30
  | [], _ => by simp
  | m :: ms, h => by
    have h1 := h m (by simp)
    have h2 := qAm ms fun x hx => h x (by simp [hx])
    rw [List.map_cons, List.sum_cons, List.length_cons]
    omega
theorem Bd.sum {ms : List Im} (h : Bd ms) (i : Nat) : 0 ≤ ((ms.take i).map Im.mo).sum ∧ ((ms.take i).map Im.mo).sum ≤ 200 * 10 ^ 30 := by
  have h2 := qAm (ms.take i) fun m hm => h.2 m (List.mem_of_mem_take hm)
  have h3 : (ms.take i).length ≤ 200 := by rw [List.length_take]; have := h.1; omega
  omega
theorem Bd.abs {ms : List Im} (h : Bd ms) (i : Nat) : (((ms.take i).map Im.mo).sum).natAbs < 2 ^ 200 := by
  have := h.sum i
  have e : (200 * 10 ^ 30 : Nat) < 2 ^ 200 := by decide
  omega
def byP (r0 r1 o0 o1 : Int) : Int := xM (o0 * r1) (o1 * r0)
def byQ (r0 r1 o0 o1 : Int) : Int := jt (o0 * r1) (o1 * r0)
theorem wU {r0 o1 : Int} (h1 : 0 < r0) (h2 : 0 < o1) : o1 * r0 ≠ 0 := Int.mul_ne_zero (by omega) (by omega)
theorem xG {x y : Int} (h0 : 0 < x) (h1 : x < 1000000) (h2 : 0 < y) (h3 : y < 1000000) : (x * y).natAbs < 2 ^ 200 := by
  have h := qAl (Int.le_of_lt h0) h1 (Int.le_of_lt h2) h3
  have h' := Int.mul_pos h0 h2
  exact Nat.lt_of_lt_of_le (show (x * y).natAbs < 2 ^ 40 by omega) (Nat.pow_le_pow_right (by decide) (by decide))
def vg (K : W.Frag) : Sp := fun vs H Q _ => ∃ (z : Addr) (ms : List Im) (x y : V) (r0 r1 o0 o1 : Int), vs = [.ref z, x, y] ∧ Tr H z ms ∧ Bd ms ∧ Rate H x r0 r1 ∧ Rate H y o0 o1 ∧
  ∀ (l : Addr) (us : List V) (H' : Hp), Same H H' → H l = none → H' l = some (.lst us) → RowsV K H' (byP r0 r1 o0 o1) (byQ r0 r1 o0 o1) (je ms) us → Q (.ref l) H'
theorem zJ (T : Tx K mg a) : FnOk P w K mg base CX0 5 a.a_written a.f_written ["track", "rate", "other"] (vg K) := by
  refine T.d_written.F.ok sc_written (fun vs H Q E h => ?_) (fun cdv A outer s H vs Q E hr h => ?_)
  · obtain ⟨z, ms, x, y, r0, r1, o0, o1, rfl, _⟩ := h
    rfl
  obtain ⟨z, ms, x, y, r0, r1, o0, o1, rfl, tT, hB, rx, ry, kk⟩ := h
  refine ⟨_, (qG (jl (qS T.d_check_rates (zA T) hr rfl (qA (pv 1) (qA (pv 2) qC))))
      (qG (qY (i := 3) sc_written.nd rfl (Or.inl rfl) (qS T.d_quotient (kX T) hr rfl (qA (pv 2) (qA (pv 1) qC))))
      (qG (qY (i := 4) sc_written.nd rfl (Or.inl rfl) (jZ qC))
      (qG (qY (i := 5) sc_written.nd rfl (Or.inl rfl) qB)
      (qG (vJ PassesOwn.never rfl (zc (pv 0)) (jP (i := 6) sc_written.nd rfl (Or.inl rfl)) (qG (jl (we F.plainAttrs_list F.slot_list_append F.type_list_append xF (pv 4) (qA (qS T.d_row_at (zz T) hr rfl (qA (pv 5) (qA (pv 3) (qA (qS T.d_without_length (xO T) hr rfl (qA (pv 6) qC)) qC)))) qC)))
      (qH (qY (i := 5) sc_written.nd rfl (Or.inl rfl) (qI jO (pv 5) (qS T.d_moments_of (zS T) hr rfl (qA (pv 6) qC)))))))
      (qH (qX (qI qCd (pv 4) (jZ (qA (qS T.d_row_at (zz T) hr rfl (qA (pv 5) (qA (pv 3) (qA (xg (v := .ref a.n_END) rfl T.g_END rfl) qC)))) qC)))))))))), ?_⟩
  try dsimp only [j8, jH]
  have px := rx.p0
  have py := ry.p0
  have qx := rx.q0
  have qy := ry.q0
  have c1 := rx.bp
  have c2 := rx.bq
  have c3 := ry.bp
  have c4 := ry.bq
  refine ⟨_, rfl, _, rfl, x, y, rfl, rx.rt, ry.rt, ?_⟩
  refine ⟨_, rfl, _, rfl, y, x, o0, o1, r0, r1, rfl, ry.pr, rx.pr, by omega, by omega, xS (by omega) (by omega), xS (by omega) (by omega), xS (by omega) (by omega), xS (by omega) (by omega), fun zb hb => ?_⟩
  unfold byP byQ at kk
  have hne := wU px qy
  have bP : (xM (o0 * r1) (o1 * r0)).natAbs < 2 ^ 200 := Nat.lt_of_le_of_lt (jz hne) (xG py c3 qx c2)
  have bQ : (jt (o0 * r1) (o1 * r0)).natAbs < 2 ^ 200 := Nat.lt_of_le_of_lt (jo hne) (xG qy c4 px c1)
  have q0 : 0 < jt (o0 * r1) (o1 * r0) := jd hne
  generalize xM (o0 * r1) (o1 * r0) = BP at kk bP ⊢
  generalize jt (o0 * r1) (o1 * r0) = BQ at kk bQ q0 ⊢
  have w1 := qE hb (.tup [.int BP, .int BQ])
  refine ⟨sL0, fun l hl => ?_⟩
  have w2 := qE hl (.lst [])
  have w12 := w1.trans w2
  have pB : (upd (upd H zb (.tup [.int BP, .int BQ])) l (.lst [])) zb = some (.tup [.int BP, .int BQ]) := w2 _ _ qD
  obtain ⟨vs, hz, his⟩ := tT
  have el : (upd (upd H zb (.tup [.int BP, .int BQ])) l (.lst [])) l = some (.lst []) := qD
  have hl0 : H l = none := w1.free hl
  generalize upd (upd H zb (.tup [.int BP, .int BQ])) l (.lst []) = H2 at w12 pB el ⊢
  have pB' : ∀ {H' : Hp}, TS H2 H' → Pr K H' (.ref zb) BP BQ := fun ts => ⟨zb, rfl, SqT.of (ts _ _ pB)⟩
  refine ⟨_, rfl, z, rfl, ⟨_, SqL.of (w12 _ _ hz)⟩, wo (K := K) (a := z) (xs := vs) (fun i σ H' => ∃ (o : Option V) (us : List V), σ = [some (.ref z), some x, some y, some (.ref zb), some (.ref l), some (.int ((ms.take i).map Im.mo).sum), o] ∧ H' l = some (.lst us) ∧ RowsV K H' BP BQ (pre 0 (ms.take i)) us ∧ TS H2 H' ∧ Same H H')
    ⟨none, [], rfl, el, trivial, TS.refl _, w12⟩ ?_ ?_ ?_⟩
  · rintro i σ H' hi ⟨_, _, _, _, _, _, e⟩
    exact SqL.of (e _ _ hz)
  · rintro i x' σ H' hx ⟨o, us, rfl, hus, hrs, ts, e⟩
    obtain ⟨m, hm, hI⟩ := his.get hx
    have hI := hI.ts (qO e)
    have hul : us.length ≤ 200 := by rw [hrs.len, j6, List.length_take]; have := hB.1; omega
    have et : ms.take (i + 1) = ms.take i ++ [m] := by rw [List.take_add_one, hm]; rfl
    refine ⟨_, rfl, .inl ⟨rfl, _, SqL.of hus⟩, _, rfl, _, rfl, _, rfl, x', m, rfl, hI, fun u H3 s3 hw => ?_⟩
    refine ⟨_, BP, BQ, _, u, some m, rfl, (pB' ts).same s3, q0, hB.abs i, bP, bQ, hw, fun v H4 s4 rv => ?_⟩
    have s34 := s3.trans s4
    have hus4 := s34 _ _ hus
    refine ⟨l, us, v, rfl, rfl, hus4, jY (by omega), ?_⟩
    have t5 : TS H4 (upd H4 l (.lst (us ++ [v]))) := xm hus4
    have tI := (hI.ts (qO s34)).ts t5
    refine ⟨_, rfl, _, rfl, x', m, rfl, tI, _, _, rfl, rfl, some x', us ++ [v], ?_, qD, ?_, (ts.trans (qO s34)).trans t5, xE (e.trans s34) hl0⟩
    · rw [et, List.map_append, List.sum_append]
      show _ = [some (V.ref z), some x, some y, some (.ref zb), some (.ref l), some (.int (((ms.take i).map Im.mo).sum + (m.mo + 0))), some x']
      rw [Int.add_zero]
      rfl
    · rw [et, vB, Int.zero_add]
      exact ((hrs.ts (qO s34)).app (.one rv)).ts t5
  · rintro σ H' ⟨o, us, rfl, hus, hrs, ts, e⟩
    have em : ms.take vs.length = ms := by rw [his.len, List.take_length]
    rw [em] at hrs ⊢
    have hul : us.length ≤ 200 := by rw [hrs.len, j6]; exact hB.1
    have ba : ((ms.map Im.mo).sum).natAbs < 2 ^ 200 := by have := hB.abs vs.length; rwa [em] at this
    refine ⟨_, rfl, _, rfl, _, rfl, _, BP, BQ, _, .ref a.n_END, none, rfl, pB' ts, q0, ba, bP, bQ, ⟨_, rfl, .inr T.sq_END⟩, fun v H4 s4 rv => ?_⟩
    refine ⟨sL1, fun d hd => ?_⟩
    have w5 := qE hd (.lst [v])
    refine ⟨l, d, us, [v], rfl, rfl, w5 _ _ (s4 _ _ hus), qD, Nat.le_of_lt (jY (by show us.length + 1 ≤ 1000; omega)), fun L hL => ?_⟩
    have w6 := qE hL (.lst (us ++ [v]))
    have s46 := (s4.trans w5).trans w6
    exact kk L _ _ (e.trans s46) ((e.trans (s4.trans w5)).free hL) qD ((hrs.ts (qO s46)).app (.one (rv.ts (qO (w5.trans w6)))))
def kj (K : W.Frag) (N : Addr) : Sp := fun vs H _ E => ∃ (t x y : V) (b c : Bool), vs = [t, x, y] ∧ RtB K H x b ∧ RtB K H y c ∧ (b && c) = false ∧ E (.ref N) none H
theorem xZ (T : Tx K mg a) : FnOk P w K mg base (CXR P w) 5 a.a_written a.f_written ["track", "rate", "other"] (kj K a.k_NoNumber) := by
  refine okX T.d_written.F sc_written (fun vs H Q E h => ?_) (fun cdv A outer s H vs Q E hr h => ?_)
  · obtain ⟨t, x, y, b, c, rfl, _⟩ := h
    rfl
  obtain ⟨t, x, y, b, c, rfl, hx, hy, hbc, k⟩ := h
  refine ⟨_, (qG (jl (zQ T.d_check_rates (xx T) hr rfl (qA (pv 1) (qA (pv 2) qC))))
      xD), ?_⟩
  try dsimp only [j8, jH]
  exact ⟨_, rfl, _, rfl, x, y, b, c, rfl, hx, hy, hbc, k⟩
def zr (P Q : Int) (r : Int × Option Im) : Bool := vw [.int ((wpP P Q r.1).fmod (wpQ P Q r.1)), .int (wpQ P Q r.1)] [.int 0, .int 1]
def zo (K : W.Frag) : Sp := fun vs H Q _ => ∃ (z : Addr) (ms : List Im) (x y : V) (r0 r1 o0 o1 : Int), vs = [.ref z, x, y] ∧ Tr H z ms ∧ Bd ms ∧ Rate H x r0 r1 ∧ Rate H y o0 o1 ∧
  ∀ (H' : Hp), Same H H' → Q (.bl ((je ms).all (zr (byP r0 r1 o0 o1) (byQ r0 r1 o0 o1)))) H'
theorem kS (T : Tx K mg a) : FnOk P w K mg base CX0 7 a.a_holds_all a.f_holds_all ["track", "rate", "other"] (zo K) := by
  refine T.d_holds_all.F.ok xQ (fun vs H Q E h => ?_) (fun cdv A outer s H vs Q E hr h => ?_)
  · obtain ⟨z, ms, x, y, r0, r1, o0, o1, rfl, _⟩ := h
    rfl
  obtain ⟨z, ms, x, y, r0, r1, o0, o1, rfl, tT, hB, rx, ry, kk⟩ := h
  have hu := hr.units0
  refine ⟨_, (qH (qX (qR (x5 rfl) rfl T.b_all rfl (qA (vR [] [] rfl (zc (qS T.d_written (zJ T) hr rfl (qA (pv 0) (qA (pv 1) (qA (pv 2) qC))))) (fun _ _ _ _ => (jq (ki (K := K) rfl hu) (pv 1) (xg (v := .ref a.n_NOUGHT) rfl T.g_NOUGHT rfl) (qN _)))) qC)))), ?_⟩
  try dsimp only [j8, jH]
  refine ⟨_, rfl, _, rfl, _, rfl, z, ms, x, y, r0, r1, o0, o1, rfl, tT, hB, rx, ry, fun l us H1 s1 l0 hl rv => ?_⟩
  generalize byP r0 r1 o0 o1 = BP at *
  generalize byQ r0 r1 o0 o1 = BQ at *
  have hul : us.length ≤ 201 := by rw [rv.len, vF]; have := hB.1; omega
  refine ⟨l, rfl, ⟨_, SqL.of hl⟩, vV (K := K) (a := l) (xs := us) (fun i acc H' => H' = H1 ∧ acc = (((je ms).take i).map (zr BP BQ)).map V.bl) ⟨rfl, rfl⟩ ?_ ?_ ?_⟩
  · rintro i acc H' hi ⟨rfl, rfl⟩
    exact ⟨SqL.of hl, jY (by simp only [List.length_map, List.length_take]; omega)⟩
  · rintro i v acc H' hi hv ⟨rfl, rfl⟩
    obtain ⟨r, hr', z4, x4, u4, rfl, e1, e2, _⟩ := rv.get hv
    refine ⟨z4, _, _, _, rfl, SqT.of e1, ?_⟩
    refine ⟨_, rfl, _, _, _, _, rfl, rfl, SqT.of e2, T.sq_NOUGHT _, rfl, rfl, Nxt.mk hi ⟨rfl, ?_⟩⟩
    rw [List.take_add_one, hr', List.map_append, List.map_append]
    rfl
  · rintro acc H' ⟨rfl, rfl⟩ D hD
    have em : (je ms).take us.length = je ms := by rw [rv.len, List.take_length]
    rw [em]
    refine ⟨D, _, rfl, SqL.of qD, ?_⟩
    have e : ((je ms).map (zr BP BQ)).all id = (je ms).all (zr BP BQ) := by rw [List.all_map]; rfl
    rw [e]
    exact kk _ (s1.trans (qE hD _))
def zT (K : W.Frag) (N : Addr) : Sp := fun vs H _ E => ∃ (t x y : V) (b c : Bool), vs = [t, x, y] ∧ RtB K H x b ∧ RtB K H y c ∧ (b && c) = false ∧ E (.ref N) none H
theorem zh (T : Tx K mg a) : FnOk P w K mg base (CXR P w) 7 a.a_holds_all a.f_holds_all ["track", "rate", "other"] (zT K a.k_NoNumber) := by
  refine okX T.d_holds_all.F xQ (fun vs H Q E h => ?_) (fun cdv A outer s H vs Q E hr h => ?_)
  · obtain ⟨t, x, y, b, c, rfl, _⟩ := h
    rfl
  obtain ⟨t, x, y, b, c, rfl, hx, hy, hbc, k⟩ := h
  have hu := hr.units0
  refine ⟨_, (qH (qX (qR (x5 rfl) rfl T.b_all rfl (qA (vR [] [] rfl (zc (zQ T.d_written (xZ T) hr rfl (qA (pv 0) (qA (pv 1) (qA (pv 2) qC))))) (fun _ _ _ _ => (jq (ki (K := K) rfl hu) (pv 1) (xg (v := .ref a.n_NOUGHT) rfl T.g_NOUGHT rfl) (qN _)))) qC)))), ?_⟩
  try dsimp only [j8, jH]
  exact ⟨_, rfl, _, rfl, _, rfl, t, x, y, b, c, rfl, hx, hy, hbc, k⟩
def zW : Sp := fun vs H Q _ => ∃ n m : Int, vs = [.int n, .int m] ∧ 0 ≤ m ∧ m ≤ 100 ∧
  ∀ (z : Addr) (xs : List Int), H z = none → xs.length = m.toNat → (∀ x ∈ xs, 0 ≤ x ∧ x < 2147483629) → Q (.ref z) (upd H z (.lst (xs.map V.int)))
theorem jn (T : Tx K mg a) : FnOk P w K mg base CX0 1 a.a__law_drawn a.f__law_drawn ["_law_number", "_law_many"] zW := by
  refine T.d__law_drawn.F.ok sc__law_drawn (fun vs H Q E h => ?_) (fun cdv A outer s H vs Q E hr h => ?_)
  · obtain ⟨n, m, rfl, _⟩ := h
    rfl
  obtain ⟨n, m, rfl, h0, h1, k⟩ := h
  refine ⟨_, (qG (qY (i := 2) sc__law_drawn.nd rfl (Or.inl rfl) (jZ qC))
      (qG (qY (i := 3) sc__law_drawn.nd rfl (Or.inl rfl) (qI qU (pv 0) qB))
      (qG (vJ PassesOwn.never rfl (xy rfl T.b_range (qA (pv 1) qC)) (jP (i := 4) sc__law_drawn.nd rfl (Or.inl rfl)) (qG (qY (i := 3) sc__law_drawn.nd rfl (Or.inl rfl) (qI qU (qI jO (qI jO (qI jO (qI qp (pv 3) (pv 3)) (qI qp qB (pv 3))) (qI qp qB (pv 4))) qB) qB))
      (qH (jl (we F.plainAttrs_list F.slot_list_append F.type_list_append xF (pv 2) (qA (qI qd (pv 3) qB) qC))))))
      (qH (qX (pv 2)))))), ?_⟩
  try dsimp only [j8, jH]
  refine ⟨sL0, fun z hz => ?_⟩
  refine ⟨_, rfl, _, _, rfl, rfl, nz, ?_⟩
  refine ⟨_, rfl, m, rfl, by omega, by omega, xn (n := m.toNat) (fun i σ H' => ∃ (xs : List Int) (x : Int) (o : Option V), σ = [some (.int n), some (.int m), some (.ref z), some (.int x), o] ∧ H' = upd H z (.lst (xs.map V.int)) ∧ xs.length = i ∧ (∀ x ∈ xs, 0 ≤ x ∧ x < 2147483629) ∧ 0 ≤ x ∧ x < 2147483629)
    ⟨[], _, none, rfl, rfl, rfl, (by simp), Int.fmod_nonneg_of_pos n (by decide), Int.fmod_lt_of_pos n (by decide)⟩ ?_ ?_⟩
  · rintro i σ H' hi ⟨xs, x, o, rfl, rfl, hl, hx, x0, x1⟩
    have q0 := Int.fmod_nonneg_of_pos (x * x + 40692 * x + 2 * (0 + (i : Int)) + 1) (show (0 : Int) < 2147483629 by decide)
    have q1 := Int.fmod_lt_of_pos (x * x + 40692 * x + 2 * (0 + (i : Int)) + 1) (show (0 : Int) < 2147483629 by decide)
    refine ⟨_, rfl, _, rfl, _, _, rfl, rfl, cmL (by omega) (by omega), _, rfl, _, _, rfl, rfl, cmL (by decide) (by decide), _, _, rfl, rfl, ?_⟩
    refine ⟨_, rfl, _, _, rfl, rfl, cmL (by decide) (by decide), _, _, rfl, rfl, _, _, rfl, rfl, _, _, rfl, rfl, nz, ?_⟩
    refine ⟨_, rfl, .inl ⟨rfl, _, SqL.of qD⟩, _, rfl, _, _, rfl, rfl, cdB (by decide) (by decide), z, _, _, rfl, rfl, qD, (by rw [List.length_map]; exact jY (by omega)), ?_⟩
    refine ⟨xs ++ [(x * x + 40692 * x + 2 * (0 + (i : Int)) + 1).fmod 2147483629 |>.fdiv 3], _, _, rfl, ?_, ?_, ?_, q0, q1⟩
    · rw [qA3, List.map_append]
      rfl
    · rw [List.length_append, hl]
      rfl
    · intro y hy
      rcases List.mem_append.mp hy with hy | hy
      · exact hx y hy
      · have e : y = ((x * x + 40692 * x + 2 * (0 + (i : Int)) + 1).fmod 2147483629).fdiv 3 := by simpa using hy
        rw [e, Int.fdiv_eq_ediv_of_nonneg _ (by decide)]
        omega
  · rintro σ H' ⟨xs, x, o, rfl, rfl, hl, hx, x0, x1⟩
    exact ⟨_, rfl, k z xs hz hl hx⟩
theorem atN {xs : List V} {i : Int} {n : Nat} (h : xs.length = n) (h0 : 0 ≤ i) (h1 : i < (n : Int)) : ∃ v, atI xs i = some v ∧ v ∈ xs := by
  have hi : i.toNat < xs.length := by omega
  have e : i = ((i.toNat : Nat) : Int) := by omega
  have hat := zd (List.getElem?_eq_getElem hi)
  rw [← e] at hat
  exact ⟨_, hat, List.getElem_mem hi⟩
theorem two : (2 : Nat) ≤ sizeLine := by decide
def GI : Im → Prop
  | .clip n p q r s l => (n = "a" ∨ n = "reel" ∨ n = "abcdefgh") ∧ Good 40 p q ∧ Good 40 r s ∧ 1 ≤ l ∧ l ≤ 10 ^ 30
  | .nest n b l => (n = "t" ∨ n = "other" ∨ n = "zzzzzzzz") ∧ 0 ≤ b ∧ b < 50 ∧ 1 ≤ l ∧ l ≤ 10 ^ 30
  | .gap l => 1 ≤ l ∧ l ≤ 10 ^ 30
  | .mix l => 1 ≤ l ∧ l ≤ 9
theorem GI.mo {m : Im} (h : GI m) : 0 ≤ m.mo ∧ m.mo ≤ 10 ^ 30 := by
  cases m with
  | clip n p q r s l => obtain ⟨_, _, _, h1, h2⟩ := h; exact ⟨by show 0 ≤ l; omega, h2⟩
  | nest n b l => obtain ⟨_, _, _, h1, h2⟩ := h; exact ⟨by show 0 ≤ l; omega, h2⟩
  | gap l => obtain ⟨h1, h2⟩ := h; exact ⟨by show 0 ≤ l; omega, h2⟩
  | mix l => exact ⟨Int.le_refl _, by show (0 : Int) ≤ 10 ^ 30; decide⟩
theorem qAb {k : Int} (h0 : 0 ≤ k) (h1 : k < 90) : Good 40 (1 + 2 * k) 2 := by
  refine ⟨by decide, ?_, ?_, by decide⟩
  · have e : Int.gcd (1 + 2 * k) 2 = Int.gcd 2 ((1 + 2 * k).fmod 2) := by rw [jx, Int.gcd_comm]
    have e2 : (1 + 2 * k).fmod 2 = 1 := by rw [Int.fmod_eq_emod_of_nonneg _ (by decide)]; omega
    rw [e, e2]; rfl
  · exact Nat.lt_of_lt_of_le (show (1 + 2 * k).natAbs < 2 ^ 10 by omega) (by decide)
theorem qAg {k : Int} (h0 : 0 ≤ k) (h1 : k < 90) : Good 40 k 1 :=
  ⟨by decide, by simp, Nat.lt_of_lt_of_le (show k.natAbs < 2 ^ 10 by omega) (by decide), by decide⟩
def kE : Sp := fun vs H Q _ => ∃ x c : Int, vs = [.int x, .int c] ∧ 0 ≤ x ∧ ∀ (m : Im) (v : V) (H' : Hp), Same H H' → IsI H' m v → GI m → m.wd ≠ "mix" → Q v H'
theorem zv (T : Tx K mg a) : FnOk P w K mg base CX0 1 a.a__law_part a.f__law_part ["_law_x", "_law_cell"] kE := by
  refine T.d__law_part.F.ok sc__law_part (fun vs H Q E h => ?_) (fun cdv A outer s H vs Q E hr h => ?_)
  · obtain ⟨x, c, rfl, _⟩ := h
    rfl
  obtain ⟨x, c, rfl, x0, kk⟩ := h
  refine ⟨_, (qG (qY (i := 2) sc__law_part.nd rfl (Or.inl rfl) (qK qZ (jZ (qA (qf (qA qB (qA qB qC))) (qA (qf (qA qB (qA qB qC))) (qA (qf (qA (xC jc qB) (qA qB qC))) (qA (qf (qA qB (qA qB qC))) (qA (qf (qA qB (qA qB qC))) (qA (qf (qA (xC jc qB) (qA qB qC))) qC))))))) (qI qU (qI qd (pv 0) qB) qB) (fun _ _ => rfl)))
      (qG (qY (i := 3) sc__law_part.nd rfl (Or.inl rfl) (qK qZ (jZ (qA (qf (qA qB (qA qB qC))) (qA (qf (qA (qI qU (qI qd (pv 0) qB) qB) (qA qB qC))) (qA (qf (qA (qI jO qB (qI qp qB (qI qU (qI qd (pv 0) qB) qB))) (qA qB qC))) (qA (qf (qA (xC jc qB) (qA qB qC))) qC))))) (qI qU (qI qd (pv 0) qB) qB) (fun _ _ => rfl)))
      (qG (qY (i := 4) sc__law_part.nd rfl (Or.inl rfl) (qK qZ (jZ (qA (qI jO qB (qI qU (qI qd (pv 0) qB) qB)) (qA (qI jO qB (qI qU (qI qd (pv 0) qB) qB)) (qA (qI jO qB (qI qU (pv 0) qB)) (qA (qI jO qB (qI qU (qI jO (qI qp (pv 1) qB) (pv 0)) (qI qBv qB qB))) qC))))) (qI qU (qI qd (pv 0) qB) qB) (fun _ _ => rfl)))
      (qG (jQ (qM jp (qI qU (pv 0) qB) qB (qN _)) (qH (qX (qf (qA jB (qA (pv 4) qC))))) qc)
      (qG (jQ (qM jp (qI qU (pv 0) qB) qB (qN _)) (qH (qX (qf (qA jB (qA (qK qZ (jZ (qA jB (qA jB (qA jB qC)))) (qI qU (qI qd (pv 0) qB) qB) (fun _ _ => rfl)) (qA (qI qU (qI qd (pv 0) qB) qB) (qA (pv 4) qC))))))) qc)
      (qH (qX (qf (qA jB (qA (qK qZ (jZ (qA jB (qA jB (qA jB qC)))) (qI qU (qI qd (pv 0) qB) qB) (fun _ _ => rfl)) (qA (pv 3) (qA (pv 2) (qA (pv 4) qC))))))))))))), ?_⟩
  try dsimp only [j8, jH]
  refine ⟨two, fun t0 u0 => ⟨two, fun t1 u1 => ⟨_, rfl, two, fun t2 u2 => ⟨two, fun t3 u3 => ⟨two, fun t4 u4 => ⟨_, rfl, two, fun t5 u5 => ⟨(by show 6 ≤ sizeLine; decide), fun lt ut => ?_⟩⟩⟩⟩⟩⟩⟩
  have p0 := qE u0 (.tup [.int 1, .int 1])
  have p1 := qE u1 (.tup [.int 1, .int 2])
  have p2 := qE u2 (.tup [.int (-1), .int 1])
  have p3 := qE u3 (.tup [.int 0, .int 1])
  have p4 := qE u4 (.tup [.int 7, .int 3])
  have p5 := qE u5 (.tup [.int (-30000), .int 1001])
  have p6 := qE ut (.lst [.ref t0, .ref t1, .ref t2, .ref t3, .ref t4, .ref t5])
  have q5 := p6
  have q4 := p5.trans q5
  have q3 := p4.trans q4
  have q2 := p3.trans q3
  have q1 := p2.trans q2
  have q0 := p1.trans q1
  have qz := p0.trans q0
  have i0 := q0 _ _ qD
  have i1 := q1 _ _ qD
  have i2 := q2 _ _ qD
  have i3 := q3 _ _ qD
  have i4 := q4 _ _ qD
  have i5 := q5 _ _ qD
  have it := qD (H := upd (upd (upd (upd (upd (upd H t0 (.tup [.int 1, .int 1])) t1 (.tup [.int 1, .int 2])) t2 (.tup [.int (-1), .int 1])) t3 (.tup [.int 0, .int 1])) t4 (.tup [.int 7, .int 3])) t5 (.tup [.int (-30000), .int 1001])) (a := lt) (o := .lst [.ref t0, .ref t1, .ref t2, .ref t3, .ref t4, .ref t5])
  clear p0 p1 p2 p3 p4 p5 p6 q0 q1 q2 q3 q4 q5
  generalize upd (upd (upd (upd (upd (upd (upd H t0 _) t1 _) t2 _) t3 _) t4 _) t5 _) lt _ = H1 at qz i0 i1 i2 i3 i4 i5 it ⊢
  have f1 := fm (x.fdiv 5) (show (0 : Int) < 6 by decide)
  obtain ⟨v, hv, hvm⟩ := atN (xs := [V.ref t0, .ref t1, .ref t2, .ref t3, .ref t4, .ref t5]) (n := 6) rfl f1.1 f1.2
  refine ⟨_, rfl, _, _, rfl, rfl, cdB (by decide) (by decide), _, _, rfl, rfl, nz, lt, _, _, v, rfl, rfl, SqL.of it, hv, ?_⟩
  obtain ⟨zp, r, s', rfl, ep, gs⟩ : ∃ (zp : Addr) (r s' : Int), v = .ref zp ∧ H1 zp = some (.tup [.int r, .int s']) ∧ Good 40 r s' := by
    simp only [List.mem_cons, List.not_mem_nil, or_false] at hvm
    rcases hvm with rfl | rfl | rfl | rfl | rfl | rfl
    · exact ⟨t0, _, _, rfl, i0, by decide, by decide, by decide, by decide⟩
    · exact ⟨t1, _, _, rfl, i1, by decide, by decide, by decide, by decide⟩
    · exact ⟨t2, _, _, rfl, i2, by decide, by decide, by decide, by decide⟩
    · exact ⟨t3, _, _, rfl, i3, by decide, by decide, by decide, by decide⟩
    · exact ⟨t4, _, _, rfl, i4, by decide, by decide, by decide, by decide⟩
    · exact ⟨t5, _, _, rfl, i5, by decide, by decide, by decide, by decide⟩
  clear hv hvm i0 i1 i2 i3 i4 i5 it
  have f9 := fm (x.fdiv 30) (show (0 : Int) < 90 by decide)
  refine ⟨two, fun t0 u0 => ⟨_, rfl, _, _, rfl, rfl, cdB (by decide) (by decide), _, _, rfl, rfl, nz, two, fun t1 u1 => ⟨_, rfl, _, _, rfl, rfl, cdB (by decide) (by decide), _, _, rfl, rfl, nz, _, _, rfl, rfl, cmL (by decide) (by decide), _, _, rfl, rfl, two, fun t2 u2 => ⟨_, rfl, two, fun t3 u3 => ⟨sL4, fun lt ut => ?_⟩⟩⟩⟩⟩
  have p0 := qE u0 (.tup [.int 0, .int 1])
  have p1 := qE u1 (.tup [.int ((x.fdiv 30).fmod 90), .int 1])
  have p2 := qE u2 (.tup [.int (1 + 2 * (x.fdiv 30).fmod 90), .int 2])
  have p3 := qE u3 (.tup [.int (-5), .int 3])
  have p6 := qE ut (.lst [.ref t0, .ref t1, .ref t2, .ref t3])
  have q3 := p6
  have q2 := p3.trans q3
  have q1 := p2.trans q2
  have q0 := p1.trans q1
  have qy := p0.trans q0
  have i0 := q0 _ _ qD
  have i1 := q1 _ _ qD
  have i2 := q2 _ _ qD
  have i3 := q3 _ _ qD
  have it := qD (H := upd (upd (upd (upd H1 t0 (.tup [.int 0, .int 1])) t1 (.tup [.int ((x.fdiv 30).fmod 90), .int 1])) t2 (.tup [.int (1 + 2 * (x.fdiv 30).fmod 90), .int 2])) t3 (.tup [.int (-5), .int 3])) (a := lt) (o := .lst [.ref t0, .ref t1, .ref t2, .ref t3])
  clear p0 p1 p2 p3 p6 q0 q1 q2 q3
  generalize upd (upd (upd (upd (upd H1 t0 _) t1 _) t2 _) t3 _) lt _ = H2 at qy i0 i1 i2 i3 it ⊢
  have f4 := fm (x.fdiv 30) (show (0 : Int) < 4 by decide)
  obtain ⟨v, hv, hvm⟩ := at4 (x := V.ref t0) (y := .ref t1) (z := .ref t2) (u := .ref t3) f4.1 f4.2
  refine ⟨_, rfl, _, _, rfl, rfl, cdB (by decide) (by decide), _, _, rfl, rfl, nz, lt, _, _, v, rfl, rfl, SqL.of it, hv, ?_⟩
  obtain ⟨zs, p, q, rfl, es, gp⟩ : ∃ (zs : Addr) (p q : Int), v = .ref zs ∧ H2 zs = some (.tup [.int p, .int q]) ∧ Good 40 p q := by
    rcases hvm with rfl | rfl | rfl | rfl
    · exact ⟨t0, _, _, rfl, i0, by decide, by decide, by decide, by decide⟩
    · exact ⟨t1, _, _, rfl, i1, qAg f9.1 f9.2⟩
    · exact ⟨t2, _, _, rfl, i2, qAb f9.1 f9.2⟩
    · exact ⟨t3, _, _, rfl, i3, by decide, by decide, by decide, by decide⟩
  have ep := qy _ _ ep
  have qz := qz.trans qy
  clear hv hvm i0 i1 i2 i3 it qy
  have f5 := fm (x.fdiv 17) (show (0 : Int) < 9 by decide)
  have f6 := fm x (show (0 : Int) < 5000 by decide)
  have f7 := fm (c * 48271 + x) (show (0 : Int) < 10 ^ (30 : Int).toNat by decide)
  refine ⟨_, rfl, _, _, rfl, rfl, cdB (by decide) (by decide), _, _, rfl, rfl, nz, _, _, rfl, rfl, _, rfl, _, _, rfl, rfl, cdB (by decide) (by decide), _, _, rfl, rfl, nz, _, _, rfl, rfl, ?_⟩
  refine ⟨_, rfl, _, _, rfl, rfl, nz, _, _, rfl, rfl, _, rfl, _, _, rfl, rfl, cmR (by decide) (by decide), _, rfl, _, _, rfl, rfl, _, _, rfl, rfl, cpw (n := 30) (by decide), _, _, rfl, rfl, nz, _, _, rfl, rfl, sL4, fun ll ul => ?_⟩
  have f8 := fm (x.fdiv 11) (show (0 : Int) < 4 by decide)
  obtain ⟨v, hv, hvm⟩ := at4 (x := V.int (1 + (x.fdiv 17).fmod 9)) (y := .int (1 + (x.fdiv 17).fmod 9)) (z := .int (1 + x.fmod 5000)) (u := .int (1 + (c * 48271 + x).fmod (10 ^ (30 : Int).toNat))) f8.1 f8.2
  refine ⟨_, rfl, _, _, rfl, rfl, cdB (by decide) (by decide), _, _, rfl, rfl, nz, ll, _, _, v, rfl, rfl, SqL.of qD, hv, ?_⟩
  have ql := qE ul (.lst [.int (1 + (x.fdiv 17).fmod 9), .int (1 + (x.fdiv 17).fmod 9), .int (1 + x.fmod 5000), .int (1 + (c * 48271 + x).fmod (10 ^ (30 : Int).toNat))])
  obtain ⟨l, rfl, l1, l2⟩ : ∃ l : Int, v = .int l ∧ 1 ≤ l ∧ l ≤ 10 ^ 30 := by
    have e : (10 ^ (30 : Int).toNat : Int) = 10 ^ 30 := rfl
    rcases hvm with rfl | rfl | rfl | rfl
    · exact ⟨_, rfl, by omega, by omega⟩
    · exact ⟨_, rfl, by omega, by omega⟩
    · exact ⟨_, rfl, by omega, by omega⟩
    · exact ⟨_, rfl, by omega, by omega⟩
  have ep := ql _ _ ep
  have es := ql _ _ es
  have qz := qz.trans ql
  clear hv hvm
  generalize upd H2 ll (.lst [.int (1 + (x.fdiv 17).fmod 9), .int (1 + (x.fdiv 17).fmod 9), .int (1 + x.fmod 5000), .int (1 + (c * 48271 + x).fmod (10 ^ (30 : Int).toNat))]) = H3 at ep es qz ⊢
  refine ⟨_, rfl, _, _, rfl, rfl, nz, rfl, _, rfl, zH (fun _ => ?_) (fun _ => ?_)⟩
  · refine ⟨_, rfl, two, fun u hu => ?_⟩
    exact kk (.gap l) _ _ (qz.trans (qE hu _)) ⟨u, rfl, qD⟩ ⟨l1, l2⟩ (by show ("gap" : Str) ≠ "mix"; decide +kernel)
  have f10 := fm (x.fdiv 7) (show (0 : Int) < 3 by decide)
  refine ⟨_, rfl, _, _, rfl, rfl, nz, rfl, _, rfl, zH (fun _ => ?_) (fun _ => ?_)⟩
  · refine ⟨sL3, fun y hy => ?_⟩
    have w3 := qE hy (.lst [.str "t", .str "other", .str "zzzzzzzz"])
    obtain ⟨v, hv, hor⟩ := at3 (x := V.str "t") (y := .str "other") (z := .str "zzzzzzzz") f10.1 f10.2
    have f11 := fm (x.fdiv 19) (show (0 : Int) < 50 by decide)
    refine ⟨_, rfl, _, _, rfl, rfl, cdB (by decide) (by decide), _, _, rfl, rfl, nz, y, _, _, v, rfl, rfl, SqL.of qD, hv, ?_⟩
    refine ⟨_, rfl, _, _, rfl, rfl, cdB (by decide) (by decide), _, _, rfl, rfl, nz, _, rfl, sL4, fun u hu => ?_⟩
    obtain ⟨n, rfl, hn⟩ : ∃ n : Str, v = .str n ∧ (n = "t" ∨ n = "other" ∨ n = "zzzzzzzz") := by
      rcases hor with rfl | rfl | rfl
      · exact ⟨_, rfl, .inl rfl⟩
      · exact ⟨_, rfl, .inr (.inl rfl)⟩
      · exact ⟨_, rfl, .inr (.inr rfl)⟩
    exact kk (.nest n _ l) _ _ ((qz.trans w3).trans (qE hu _)) ⟨u, rfl, qD⟩ ⟨hn, f11.1, f11.2, l1, l2⟩ (by show ("nest" : Str) ≠ "mix"; decide +kernel)
  refine ⟨sL3, fun y hy => ?_⟩
  have w3 := qE hy (.lst [.str "a", .str "reel", .str "abcdefgh"])
  obtain ⟨v, hv, hor⟩ := at3 (x := V.str "a") (y := .str "reel") (z := .str "abcdefgh") f10.1 f10.2
  refine ⟨_, rfl, _, _, rfl, rfl, cdB (by decide) (by decide), _, _, rfl, rfl, nz, y, _, _, v, rfl, rfl, SqL.of qD, hv, _, rfl, _, rfl, _, rfl, sL5, fun u hu => ?_⟩
  obtain ⟨n, rfl, hn⟩ : ∃ n : Str, v = .str n ∧ (n = "a" ∨ n = "reel" ∨ n = "abcdefgh") := by
    rcases hor with rfl | rfl | rfl
    · exact ⟨_, rfl, .inl rfl⟩
    · exact ⟨_, rfl, .inr (.inl rfl)⟩
    · exact ⟨_, rfl, .inr (.inr rfl)⟩
  have w6 := qE hu (.tup [.str "clip", .str n, .ref zs, .ref zp, .int l])
  exact kk (.clip n p q r s' l) _ _ ((qz.trans w3).trans w6) ⟨u, zs, zp, rfl, qD, w6 _ _ (w3 _ _ es), w6 _ _ (w3 _ _ ep)⟩ ⟨hn, gp, gs, l1, l2⟩ (by show ("clip" : Str) ≠ "mix"; decide +kernel)
theorem v5 (m : Im) : m.wd ≠ "end" := by
  cases m with
  | clip => show ("clip" : Str) ≠ "end"; decide +kernel
  | nest => show ("nest" : Str) ≠ "end"; decide +kernel
  | gap => show ("gap" : Str) ≠ "end"; decide +kernel
  | mix => show ("mix" : Str) ≠ "end"; decide +kernel
def qA6 (a k : Str) : Bool := if a = "mix" then decide (k = "clip") else if k = "mix" then decide (a = "clip") else !(decide (a = "gap") && (decide (k = "gap") || decide (k = "end")))
def jX (a : Str) (ms : List Im) : Str := match ms.getLast? with | none => a | some m => m.wd
def Chn : Str → List Im → Prop
  | _, [] => True
  | a, m :: ms => qA6 a m.wd = true ∧ Chn m.wd ms
theorem vi (a : Str) (ms : List Im) (m : Im) : jX a (ms ++ [m]) = m.wd := by unfold jX; rw [List.getLast?_append]; rfl
theorem zK (a : Str) (m : Im) (ms : List Im) : jX a (m :: ms) = jX m.wd ms := by
  unfold jX
  cases ms with
  | nil => rfl
  | cons x xs => rw [List.getLast?_cons_cons]; cases h : (x :: xs).getLast? <;> simp_all
theorem Chn.snoc : ∀ {a : Str} {ms : List Im} {m : Im}, Chn a ms → qA6 (jX a ms) m.wd = true → Chn a (ms ++ [m])
  | a, [], m, _, h => ⟨h, trivial⟩
  | a, x :: ms, m, h, h' => ⟨h.1, Chn.snoc h.2 (by rw [← zK a]; exact h')⟩
theorem Chn.dl : ∀ {a : Str} {ms : List Im}, Chn a ms → Chn a ms.dropLast
  | _, [], _ => trivial
  | _, [_], _ => trivial
  | _, _ :: _ :: _, h => ⟨h.1, Chn.dl h.2⟩
theorem Chn.last : ∀ {a : Str} {ms : List Im} {m : Im}, Chn a ms → ms.getLast? = some m → qA6 (jX a ms.dropLast) m.wd = true
  | _, [], _, _, h => by simp at h
  | a, [x], m, h, e => by
    have : x = m := by simpa using e
    subst this
    exact h.1
  | a, x :: y :: ms, m, h, e => by
    have := Chn.last (a := x.wd) (ms := y :: ms) (m := m) h.2 (by rw [List.getLast?_cons_cons] at e; exact e)
    rw [List.dropLast_cons₂, zK]
    exact this
def zM (K : W.Frag) : Sp := fun vs H Q _ => ∃ (z : Addr) (ns : List Int), vs = [.ref z] ∧ SqL K H z (ns.map V.int) ∧ ns.length ≤ 63 ∧ ∀ (y : Addr) (ms : List Im) (H' : Hp), Same H H' → H y = none → Tr H' y ms → ms.length ≤ 126 → (∀ m ∈ ms, GI m) → Chn "" ms → jX "" ms ≠ "mix" → jX "" ms ≠ "gap" → Q (.ref y) H'
theorem zf (T : Tx K mg a) : FnOk P w K mg base CX0 2 a.a__law_track a.f__law_track ["_law_cells"] (zM K) := by
  refine T.d__law_track.F.ok sc__law_track (fun vs H Q E h => ?_) (fun cdv A outer s H vs Q E hr h => ?_)
  · obtain ⟨z, ns, rfl, _⟩ := h
    rfl
  obtain ⟨z, ns, rfl, hS, hlen, kk⟩ := h
  have hu := hr.units
  refine ⟨_, (qG (qY (i := 1) sc__law_track.nd rfl (Or.inl rfl) (jZ qC))
      (qG (vJ PassesOwn.never rfl (xy rfl T.b_range (qA (qR qo rfl T.b_len rfl (qA (pv 0) qC)) qC)) (jP (i := 2) sc__law_track.nd rfl (Or.inl rfl)) (qG (qY (i := 3) sc__law_track.nd rfl (Or.inl rfl) (qK qZ (qS T.d__law_drawn (jn T) hr rfl (qA (qI jO (qK qZ (pv 0) (pv 2) (fun _ _ => rfl)) (qI qp qB (pv 2))) (qA qB qC))) qB (fun _ _ => rfl)))
      (qG (qY (i := 4) sc__law_track.nd rfl (Or.inl rfl) (qS T.d__law_part (zv T) hr rfl (qA (pv 3) (qA (qK qZ (pv 0) (pv 2) (fun _ _ => rfl)) qC))))
      (qG (zj (jQ (vD (PW.pt (xw (qM jp (qK qJ (pv 4) qB (fun _ _ => rfl)) jB (qN _)) (xw (qM (vO hu) (pv 1) (jZ qC) (qN _)) (xw (qM jp (qK qJ (qK qZ (pv 1) (xC jc qB) (fun _ _ => rfl)) qB (fun _ _ => rfl)) jB (qN _)) (xc (qM vz (qI qU (pv 3) qB) qB (qN _)))))))) (qH (jl (we F.plainAttrs_list F.slot_list_append F.type_list_append xF (pv 1) (qA (qf (qA jB (qA (qI jO qB (qI qU (qI qd (pv 3) qB) qB)) qC))) qC)))) qc))
      (qH (jQ (vD (PW.pt (jf (qM xW (qK qJ (pv 4) qB (fun _ _ => rfl)) jB (qN _)) (jf (qM (qBw hu) (pv 1) (jZ qC) (qN _)) (ja (qM xW (qK qJ (qK qZ (pv 1) (xC jc qB) (fun _ _ => rfl)) qB (fun _ _ => rfl)) jB (qN _))))))) (qH (jl (we F.plainAttrs_list F.slot_list_append F.type_list_append xF (pv 1) (qA (pv 4) qC)))) qc))))))
      (qG (jQ (vD (PW.pt (xw (qM (vO hu) (pv 1) (jZ qC) (qN _)) (xc (qM jp (qK qJ (qK qZ (pv 1) (xC jc qB) (fun _ _ => rfl)) qB (fun _ _ => rfl)) jB (qN _)))))) (qH (jl (qCe F.plainAttrs_list F.slot_list_pop F.type_list_pop qBu (pv 1)))) qc)
      (qH (qX (pv 1)))))), ?_⟩
  try dsimp only [j8, jH]
  refine ⟨sL0, fun y hy => ?_⟩
  have w0 := qE hy (.lst [])
  have hml : (ns.map V.int).length = ns.length := List.length_map _
  refine ⟨_, rfl, z, _, rfl, .inl (w0.seq hS), _, rfl, by omega, by omega, xn (n := (((ns.map V.int).length : Nat) : Int).toNat) (fun i σ H' => ∃ (o1 o2 o3 : Option V) (ms : List Im) (vs : List V), σ = [some (.ref z), some (.ref y), o1, o2, o3] ∧ H' y = some (.lst vs) ∧ IsIs H' ms vs ∧ ms.length ≤ 2 * i ∧ (∀ m ∈ ms, GI m) ∧ Chn "" ms ∧ jX "" ms ≠ "mix" ∧ Same H H')
    ⟨none, none, none, [], [], rfl, qD, trivial, by simp, by simp, trivial, by decide +kernel, w0⟩ ?_ ?_⟩
  · rintro i σ H' hi ⟨o1, o2, o3, ms, vs, rfl, hv, hiv, hml', hg, hc, hnm, e⟩
    have hi' : i < ns.length := by omega
    have at1' : atI (ns.map V.int) (0 + (i : Int)) = some (.int ns[i]) := by
      rw [Int.zero_add]
      exact zd (by rw [List.getElem?_map, List.getElem?_eq_getElem hi']; rfl)
    have hvl : vs.length ≤ 2 * i := by rw [hiv.len]; exact hml'
    refine ⟨_, rfl, _, rfl, z, _, _, _, rfl, rfl, e.seq hS, at1', _, rfl, _, _, rfl, rfl, cmL (by decide) (by decide), _, _, rfl, rfl, _, 3, rfl, by decide, by decide, fun zx xs hzx hxl hx => ?_⟩
    have w1 := qE hzx (.lst (xs.map V.int))
    obtain ⟨x0, x1, x2, rfl⟩ : ∃ x0 x1 x2 : Int, xs = [x0, x1, x2] := by
      match xs, hxl with
      | [x0, x1, x2], _ => exact ⟨x0, x1, x2, rfl⟩
    have b2 := hx x2 (by simp)
    refine ⟨zx, _, _, .int x2, rfl, rfl, SqL.of qD, rfl, ?_⟩
    refine ⟨_, rfl, _, rfl, _, rfl, z, _, _, _, rfl, rfl, (e.trans w1).seq hS, at1', x2, _, rfl, b2.1, fun m v H2 w2 hI hGm hmm => ?_⟩
    have w12 := w1.trans w2
    have hv := w12 _ _ hv
    have hiv := hiv.ts (qO w12)
    have e2 := e.trans w12
    obtain ⟨zi, xi, rfl, hzi, h0, _⟩ := hI.opn
    refine ⟨fun σ H4 => ∃ (ms2 : List Im) (vs2 : List V), σ = [some (.ref z), some (.ref y), some (.int (0 + (i : Int))), some (.int x2), some (.ref zi)] ∧ H4 y = some (.lst vs2) ∧ IsIs H4 ms2 vs2 ∧ ms2.length ≤ 2 * i + 1 ∧ (∀ m ∈ ms2, GI m) ∧ Chn "" ms2 ∧ (jX "" ms2 = "mix" → m.wd = "clip") ∧ IsI H4 m (.ref zi) ∧ Same H H4, ?_, ?_⟩
    · refine ⟨fun b H3 => Same H2 H3 ∧ (b = true → m.wd = "clip" ∧ jX "" ms = "clip"), ?_, ?_⟩
      · refine ⟨_, rfl, zi, xi, _, _, rfl, rfl, SqT.of hzi, h0, rfl, _, rfl, zH (fun c => ?_) (fun _ => ⟨Same.refl _, fun z => by cases z⟩)⟩
        have hmc : m.wd = "clip" := by simpa using c
        refine ⟨_, rfl, sL0, fun en hen => qCl ⟨vs, (qE hen _) _ _ hv, hiv.ts (qO (qE hen _))⟩ qD ⟨_, rfl, ?_⟩⟩
        have w3 := qE hen (.lst [])
        cases hms : ms with
        | nil => exact jR ⟨w3, fun z => by cases z⟩
        | cons m0 ms0 =>
          refine x9 ?_
          obtain ⟨v, m', h1, h2, _, h4⟩ := (hiv.ts (qO w3)).last (by rw [hms]; simp)
          obtain ⟨zl, xl, rfl, hzl, hl0, _⟩ := h4.opn
          refine ⟨_, rfl, _, rfl, y, _, _, _, rfl, rfl, SqL.of (w3 _ _ hv), xH h1, zl, xl, _, _, rfl, rfl, SqT.of hzl, hl0, rfl, _, rfl, zH (fun c => ?_) (fun _ => ⟨w3, fun z => by cases z⟩)⟩
          have hlc : jX "" ms = "clip" := by unfold jX; rw [h2]; simpa using c
          exact ⟨_, rfl, _, _, rfl, rfl, nz, _, _, rfl, rfl, _, rfl, w3, fun _ => ⟨hmc, by rw [← hms]; exact hlc⟩⟩
      rintro b H3 ⟨w3, hb⟩
      have e3 := e2.trans w3
      have hv := w3 _ _ hv
      have hiv := hiv.ts (qO w3)
      have hI := hI.ts (qO w3)
      cases b with
      | false => exact jR ⟨ms, vs, rfl, hv, hiv, by omega, hg, hc, fun z => absurd z hnm, hI, e3⟩
      | true =>
        obtain ⟨hmc, hlc⟩ := hb rfl
        have f9 := fm (x2.fdiv 23) (show (0 : Int) < 9 by decide)
        refine x9 ⟨_, rfl, .inl ⟨rfl, _, SqL.of hv⟩, _, rfl, _, _, rfl, rfl, cdB (by decide) (by decide), _, _, rfl, rfl, nz, _, _, rfl, rfl, two, fun g hgn => ?_⟩
        have w4 := qE hgn (.tup [.str "mix", .int (1 + (x2.fdiv 23).fmod 9)])
        refine ⟨y, _, _, rfl, rfl, w4 _ _ hv, jY (by omega), ?_⟩
        refine ⟨ms ++ [.mix (1 + (x2.fdiv 23).fmod 9)], _, rfl, qD, ((hiv.ts (qO w4)).app (.one (isM qD))).ts (xm (w4 _ _ hv)), by simp; omega, ?_, hc.snoc ?_, fun _ => hmc, (hI.ts (qO w4)).ts (xm (w4 _ _ hv)), xE (e3.trans w4) hy⟩
        · intro m hm
          rcases List.mem_append.mp hm with hm | hm
          · exact hg m hm
          · have : m = .mix (1 + (x2.fdiv 23).fmod 9) := by simpa using hm
            rw [this]; exact ⟨by omega, by omega⟩
        · rw [hlc]; show qA6 "clip" "mix" = true; decide +kernel
    rintro σ H4 ⟨ms2, vs2, rfl, hv, hiv, hml2, hg2, hc2, hlm, hI, e4⟩
    have hvl2 : vs2.length ≤ 2 * i + 1 := by rw [hiv.len]; exact hml2
    obtain ⟨zi', xi', ez, hzi, h0, _⟩ := hI.opn
    cases ez
    refine ⟨fun b H5 => Same H4 H5 ∧ (b = true → m.wd = "gap" → jX "" ms2 ≠ "gap") ∧ (b = false → m.wd = "gap"), ?_, ?_⟩
    · refine ⟨_, rfl, zi, xi', _, _, rfl, rfl, SqT.of hzi, h0, rfl, _, rfl, zH (fun c => ⟨Same.refl _, fun _ z => ?_, fun z => by cases z⟩) (fun c => ?_)⟩
      · rw [z] at c; exact absurd c (by decide +kernel)
      have hmg : m.wd = "gap" := by simpa using c
      refine ⟨_, rfl, sL0, fun en hen => qCz ⟨vs2, (qE hen _) _ _ hv, hiv.ts (qO (qE hen _))⟩ qD ⟨_, rfl, ?_⟩⟩
      have w5 := qE hen (.lst [])
      cases hms : ms2 with
      | nil => exact x9 ⟨w5, fun _ _ => by decide +kernel, fun z => by cases z⟩
      | cons m0 ms0 =>
        refine jR ?_
        obtain ⟨v, m', h1, h2, _, h4⟩ := (hiv.ts (qO w5)).last (by rw [hms]; simp)
        obtain ⟨zl, xl, rfl, hzl, hl0, _⟩ := h4.opn
        refine ⟨_, rfl, _, rfl, y, _, _, _, rfl, rfl, SqL.of (w5 _ _ hv), xH h1, zl, xl, _, _, rfl, rfl, SqT.of hzl, hl0, rfl, _, rfl, w5, fun c _ => ?_, fun _ => hmg⟩
        have : jX "" ms2 = m'.wd := by unfold jX; rw [h2]
        rw [← hms, this]
        simpa using c
    rintro b H5 ⟨w5, hb1, hb2⟩
    have e5 := e4.trans w5
    have hv := w5 _ _ hv
    have hiv := hiv.ts (qO w5)
    have hI := hI.ts (qO w5)
    cases b with
    | false =>
      have hmg := hb2 rfl
      refine jR ⟨_, _, _, ms2, vs2, rfl, hv, hiv, by omega, hg2, hc2, fun z => ?_, e5⟩
      have := hlm z
      rw [hmg] at this
      exact absurd this (by decide +kernel)
    | true =>
      refine x9 ⟨_, rfl, .inl ⟨rfl, _, SqL.of hv⟩, _, rfl, y, _, _, rfl, rfl, hv, jY (by omega), ?_⟩
      refine ⟨_, _, _, ms2 ++ [m], _, rfl, qD, (hiv.app (.one hI)).ts (xm hv), by simp; omega, ?_, hc2.snoc ?_, by rw [vi]; exact hmm, xE e5 hy⟩
      · intro x hx
        rcases List.mem_append.mp hx with hx | hx
        · exact hg2 x hx
        · have : x = m := by simpa using hx
          rw [this]; exact hGm
      · unfold qA6
        by_cases c1 : jX "" ms2 = "mix"
        · rw [if_pos c1, hlm c1]; decide +kernel
        rw [if_neg c1, if_neg hmm]
        by_cases c2 : m.wd = "gap"
        · have := hb1 rfl c2
          simp [this]
        · have c3 := v5 m
          simp [c2, c3]
  · rintro σ H' ⟨o1, o2, o3, ms, vs, rfl, hv, hiv, hml', hg, hc, hnm, e⟩
    have hvl : vs.length ≤ 126 := by rw [hiv.len]; omega
    refine ⟨fun b H3 => Same H' H3 ∧ (b = true → ∃ l, ms.getLast? = some (.gap l)) ∧ (b = false → jX "" ms ≠ "gap"), ?_, ?_⟩
    · refine ⟨_, rfl, sL0, fun en hen => qCl ⟨vs, (qE hen _) _ _ hv, hiv.ts (qO (qE hen _))⟩ qD ⟨_, rfl, ?_⟩⟩
      have w3 := qE hen (.lst [])
      cases hms : ms with
      | nil => exact jR ⟨w3, (fun z => by cases z), fun _ => by decide +kernel⟩
      | cons m0 ms0 =>
        refine x9 ?_
        obtain ⟨v, m', h1, h2, _, h4⟩ := (hiv.ts (qO w3)).last (by rw [hms]; simp)
        obtain ⟨zl, xl, rfl, hzl, hl0, _⟩ := h4.opn
        refine ⟨_, rfl, _, rfl, y, _, _, _, rfl, rfl, SqL.of (w3 _ _ hv), xH h1, zl, xl, _, _, rfl, rfl, SqT.of hzl, hl0, rfl, _, rfl, w3, fun c => ?_, fun c => ?_⟩
        · obtain ⟨l, rfl⟩ := qC5 (m := m') (by simpa using c)
          exact ⟨l, by rw [← hms]; exact h2⟩
        · have : jX "" ms = m'.wd := by unfold jX; rw [h2]
          rw [← hms, this]
          simpa using c
    rintro b H3 ⟨w3, hb1, hb2⟩
    have e3 := e.trans w3
    have hv := w3 _ _ hv
    have hiv := hiv.ts (qO w3)
    cases b with
    | false => exact jR ⟨_, rfl, kk y ms H3 e3 hy ⟨vs, hv, hiv⟩ (by omega) hg hc hnm (hb2 rfl)⟩
    | true =>
      obtain ⟨l, hgl⟩ := hb1 rfl
      have hne : ms ≠ [] := by intro z; rw [z] at hgl; cases hgl
      have hvne : vs ≠ [] := by intro z; have := hiv.len; rw [z] at this; exact hne (List.length_eq_zero_iff.mp this.symm)
      have hmay := hc.last hgl
      obtain ⟨lv, hlv⟩ : ∃ v, vs[vs.length - 1]? = some v := ⟨_, List.getElem?_eq_getElem (by have := List.length_pos_iff.mpr hvne; omega)⟩
      refine x9 ⟨_, rfl, .inl ⟨rfl, _, SqL.of hv⟩, y, vs, lv, rfl, rfl, hv, hlv, ?_⟩
      have hl1 : jX "" ms.dropLast ≠ "mix" := by
        intro z; rw [z] at hmay; exact absurd hmay (by show ¬ qA6 "mix" "gap" = true; decide +kernel)
      have hl2 : jX "" ms.dropLast ≠ "gap" := by
        intro z; rw [z] at hmay; exact absurd hmay (by show ¬ qA6 "gap" "gap" = true; decide +kernel)
      exact ⟨_, rfl, kk y ms.dropLast _ (xE e3 hy) hy ⟨vs.dropLast, qD, hiv.dl.ts (xm hv)⟩ (by rw [List.length_dropLast]; omega) (fun m hm => hg m (List.dropLast_subset _ hm)) hc.dl hl1 hl2⟩
def RtF (p q : Int) : Prop := (q = 1 ∧ 1 ≤ p ∧ p ≤ 900) ∨ (p = 30000 ∧ q = 1001) ∨ (p = 1 ∧ q = 3) ∨ (p = 24000 ∧ q = 1001)
def z8 : Sp := fun vs H Q _ => ∃ x : Int, vs = [.int x] ∧ ∀ (v : V) (p q : Int) (H' : Hp), Same H H' → Rate H' v p q → RtF p q → Q v H'
theorem xP (T : Tx K mg a) : FnOk P w K mg base CX0 1 a.a__law_rate a.f__law_rate ["_law_x"] z8 := by
  refine T.d__law_rate.F.ok kK (fun vs H Q E h => ?_) (fun cdv A outer s H vs Q E hr h => ?_)
  · obtain ⟨x, rfl, _⟩ := h
    rfl
  obtain ⟨x, rfl, kk⟩ := h
  refine ⟨_, (qH (qX (qK qZ (jZ (qA (qf (qA qB (qA qB qC))) (qA (qf (qA qB (qA qB qC))) (qA (qf (qA qB (qA qB qC))) (qA (qf (qA qB (qA qB qC))) (qA (qf (qA qB (qA qB qC))) (qA (qf (qA qB (qA qB qC))) (qA (qf (qA (qI jO qB (qI qU (qI qd (pv 0) qB) qB)) (qA qB qC))) (qA (qf (qA qB (qA qB qC))) qC))))))))) (qI qU (pv 0) qB) (fun _ _ => rfl)))), ?_⟩
  try dsimp only [j8, jH]
  refine ⟨two, fun t0 u0 => ⟨two, fun t1 u1 => ⟨two, fun t2 u2 => ⟨two, fun t3 u3 => ⟨two, fun t4 u4 => ⟨two, fun t5 u5 => ⟨_, rfl, _, _, rfl, rfl, cdB (by decide) (by decide), _, _, rfl, rfl, nz, _, _, rfl, rfl, two, fun t6 u6 => ⟨two, fun t7 u7 => ⟨(by show 8 ≤ sizeLine; decide), fun lt ut => ?_⟩⟩⟩⟩⟩⟩⟩⟩⟩
  have f9 := fm (x.fdiv 8) (show (0 : Int) < 900 by decide)
  have p0 := qE u0 (.tup [.int 24, .int 1])
  have p1 := qE u1 (.tup [.int 25, .int 1])
  have p2 := qE u2 (.tup [.int 30000, .int 1001])
  have p3 := qE u3 (.tup [.int 1, .int 3])
  have p4 := qE u4 (.tup [.int 60, .int 1])
  have p5 := qE u5 (.tup [.int 24000, .int 1001])
  have p6 := qE u6 (.tup [.int (1 + (x.fdiv 8).fmod 900), .int 1])
  have p7 := qE u7 (.tup [.int 12, .int 1])
  have p8 := qE ut (.lst [.ref t0, .ref t1, .ref t2, .ref t3, .ref t4, .ref t5, .ref t6, .ref t7])
  have q7 := p8
  have q6 := p7.trans q7
  have q5 := p6.trans q6
  have q4 := p5.trans q5
  have q3 := p4.trans q4
  have q2 := p3.trans q3
  have q1 := p2.trans q2
  have q0 := p1.trans q1
  have qz := p0.trans q0
  have i0 := q0 _ _ qD
  have i1 := q1 _ _ qD
  have i2 := q2 _ _ qD
  have i3 := q3 _ _ qD
  have i4 := q4 _ _ qD
  have i5 := q5 _ _ qD
  have i6 := q6 _ _ qD
  have i7 := q7 _ _ qD
  have it := qD (H := upd (upd (upd (upd (upd (upd (upd (upd H t0 (.tup [.int 24, .int 1])) t1 (.tup [.int 25, .int 1])) t2 (.tup [.int 30000, .int 1001])) t3 (.tup [.int 1, .int 3])) t4 (.tup [.int 60, .int 1])) t5 (.tup [.int 24000, .int 1001])) t6 (.tup [.int (1 + (x.fdiv 8).fmod 900), .int 1])) t7 (.tup [.int 12, .int 1])) (a := lt) (o := .lst [.ref t0, .ref t1, .ref t2, .ref t3, .ref t4, .ref t5, .ref t6, .ref t7])
  clear p0 p1 p2 p3 p4 p5 p6 p7 p8 q0 q1 q2 q3 q4 q5 q6 q7
  generalize upd (upd (upd (upd (upd (upd (upd (upd (upd H t0 _) t1 _) t2 _) t3 _) t4 _) t5 _) t6 _) t7 _) lt _ = H1 at qz i0 i1 i2 i3 i4 i5 i6 i7 it ⊢
  have f1 := fm x (show (0 : Int) < 8 by decide)
  obtain ⟨v, hv, hvm⟩ := atN (xs := [V.ref t0, .ref t1, .ref t2, .ref t3, .ref t4, .ref t5, .ref t6, .ref t7]) (n := 8) rfl f1.1 f1.2
  refine ⟨_, rfl, _, _, rfl, rfl, nz, lt, _, _, v, rfl, rfl, SqL.of it, hv, ?_⟩
  obtain ⟨p, q, hR, hF⟩ : ∃ (p q : Int), Rate H1 v p q ∧ RtF p q := by
    simp only [List.mem_cons, List.not_mem_nil, or_false] at hvm
    rcases hvm with rfl | rfl | rfl | rfl | rfl | rfl | rfl | rfl
    · exact ⟨_, _, ⟨⟨t0, rfl, i0⟩, by decide, by decide, by decide, by decide, by decide⟩, .inl ⟨rfl, by decide, by decide⟩⟩
    · exact ⟨_, _, ⟨⟨t1, rfl, i1⟩, by decide, by decide, by decide, by decide, by decide⟩, .inl ⟨rfl, by decide, by decide⟩⟩
    · exact ⟨_, _, ⟨⟨t2, rfl, i2⟩, by decide, by decide, by decide, by decide, by decide⟩, .inr (.inl ⟨rfl, rfl⟩)⟩
    · exact ⟨_, _, ⟨⟨t3, rfl, i3⟩, by decide, by decide, by decide, by decide, by decide⟩, .inr (.inr (.inl ⟨rfl, rfl⟩))⟩
    · exact ⟨_, _, ⟨⟨t4, rfl, i4⟩, by decide, by decide, by decide, by decide, by decide⟩, .inl ⟨rfl, by decide, by decide⟩⟩
    · exact ⟨_, _, ⟨⟨t5, rfl, i5⟩, by decide, by decide, by decide, by decide, by decide⟩, .inr (.inr (.inr ⟨rfl, rfl⟩))⟩
    · exact ⟨_, _, ⟨⟨t6, rfl, i6⟩, by omega, by decide, by simp, by omega, by decide⟩, .inl ⟨rfl, by omega, by omega⟩⟩
    · exact ⟨_, _, ⟨⟨t7, rfl, i7⟩, by decide, by decide, by decide, by decide, by decide⟩, .inl ⟨rfl, by decide, by decide⟩⟩
  exact kk v p q H1 qz hR hF
theorem ke {P Q b : Int} (h : 0 < Q) : 0 ≤ (wpP P Q b).fmod (wpQ P Q b) ∧ (wpP P Q b).fmod (wpQ P Q b) < wpQ P Q b := fm _ (xq h)
theorem qCa {P Q b : Int} (h : 0 < Q) (h0 : (wpP P Q b).fmod (wpQ P Q b) = 0) : wpQ P Q b = 1 := by
  have g := wM (P := P) (b := b) h
  rw [← jx, h0] at g
  have := xq (P := P) (b := b) h
  rw [Int.gcd_zero_right] at g
  omega
theorem qA0 {b r0 r1 o0 o1 : Int} (h1 : 0 < r0) (h2 : 0 < o1) :
    ((wpP (byP r0 r1 o0 o1) (byQ r0 r1 o0 o1) b).fdiv (wpQ (byP r0 r1 o0 o1) (byQ r0 r1 o0 o1) b) * wpQ (byP r0 r1 o0 o1) (byQ r0 r1 o0 o1) b + (wpP (byP r0 r1 o0 o1) (byQ r0 r1 o0 o1) b).fmod (wpQ (byP r0 r1 o0 o1) (byQ r0 r1 o0 o1) b)) * r0 * o1 = b * o0 * r1 * wpQ (byP r0 r1 o0 o1) (byQ r0 r1 o0 o1) b := by
  have hne := wU h1 h2
  have e1 : byP r0 r1 o0 o1 * (o1 * r0) = o0 * r1 * byQ r0 r1 o0 o1 := xv _ _
  have q0 : 0 < byQ r0 r1 o0 o1 := jd hne
  generalize byP r0 r1 o0 o1 = BP at *
  generalize byQ r0 r1 o0 o1 = BQ at *
  have e2 : xM b 1 * 1 = b * jt b 1 := xv _ _
  have q1 : 0 < jt b 1 := jd (by decide)
  have e3 : wpP BP BQ b * (jt b 1 * BQ) = xM b 1 * BP * wpQ BP BQ b := xv _ _
  have ed : (wpP BP BQ b).fdiv (wpQ BP BQ b) * wpQ BP BQ b + (wpP BP BQ b).fmod (wpQ BP BQ b) = wpP BP BQ b := by
    have := Int.mul_fdiv_add_fmod (wpP BP BQ b) (wpQ BP BQ b)
    rw [Int.mul_comm] at this
    exact this
  rw [ed]
  generalize wpP BP BQ b = X at *
  generalize wpQ BP BQ b = Y at *
  generalize xM b 1 = U at *
  generalize jt b 1 = W at *
  have hw : W * BQ ≠ 0 := Int.mul_ne_zero (by omega) (by omega)
  refine Int.eq_of_mul_eq_mul_right hw ?_
  have a1 : X * r0 * o1 * (W * BQ) = X * (W * BQ) * (o1 * r0) := by grind
  have a2 : U * BP * Y * (o1 * r0) = U * Y * (BP * (o1 * r0)) := by grind
  rw [a1, e3, a2, e1]
  have a3 : U = b * W := by rw [← e2]; omega
  rw [a3]
  grind
def xI (K : W.Frag) : Sp := fun vs H Q _ => ∃ (v x y u : V) (b r0 r1 o0 o1 : Int) (m : Option Im), vs = [v, .int b, x, y, u] ∧ RowV K H (byP r0 r1 o0 o1) (byQ r0 r1 o0 o1) (b, m) v ∧ b.natAbs < 2 ^ 200 ∧ Rate H x r0 r1 ∧ Rate H y o0 o1 ∧ WhV K H m u ∧ Q (.bl true) H
theorem ji (T : Tx K mg a) : FnOk P w K mg base CX0 1 a.a__law_row_right a.f__law_row_right ["_law_row", "_law_border", "_law_rate_here", "_law_other", "_law_what"] (xI K) := by
  refine T.d__law_row_right.F.ok sc__law_row_right (fun vs H Q E h => ?_) (fun cdv A outer s H vs Q E hr h => ?_)
  · obtain ⟨v, x, y, u, b, r0, r1, o0, o1, m, rfl, _⟩ := h
    rfl
  obtain ⟨v, x, y, u, b, r0, r1, o0, o1, m, rfl, ⟨z, xr, ur, rfl, hz, hx, hw⟩, bb, rx, ry, hu2, kk⟩ := h
  have hu := hr.units
  have px := rx.p0
  have py := ry.p0
  have qx := rx.q0
  have qy := ry.q0
  have c1 := rx.bp
  have c2 := rx.bq
  have c3 := ry.bp
  have c4 := ry.bq
  have told := qA0 (b := b) (r1 := r1) (o0 := o0) px qy
  have hne := wU px qy
  have bP : (byP r0 r1 o0 o1).natAbs < 2 ^ 200 := Nat.lt_of_le_of_lt (jz hne) (xG py c3 qx c2)
  have bQ : (byQ r0 r1 o0 o1).natAbs < 2 ^ 200 := Nat.lt_of_le_of_lt (jo hne) (xG qy c4 px c1)
  have q0 : 0 < byQ r0 r1 o0 o1 := jd hne
  obtain ⟨zx, rfl, ex⟩ := rx.ex
  obtain ⟨zy, rfl, ey⟩ := ry.ex
  dsimp only at hz hx hw
  generalize byP r0 r1 o0 o1 = BP at *
  generalize byQ r0 r1 o0 o1 = BQ at *
  have f := ke (P := BP) (b := b) q0
  have f1 := qCa (P := BP) (b := b) q0
  have l1 : (xM b 1).natAbs < 2 ^ 200 := Nat.lt_of_le_of_lt (jz (by decide)) bb
  have l2 : (jt b 1).natAbs < 2 ^ 200 := Nat.lt_of_le_of_lt (jo (by decide)) (by decide)
  have bX : (wpP BP BQ b).natAbs < 2 ^ 400 := Nat.lt_of_le_of_lt (jz (vq b q0)) (by have := jE l1 bP; exact this)
  have bY : (wpQ BP BQ b).natAbs < 2 ^ 400 := Nat.lt_of_le_of_lt (jo (vq b q0)) (by have := jE l2 bQ; exact this)
  generalize wpP BP BQ b = X at *
  generalize wpQ BP BQ b = Y at *
  have hT : SqT K H z [.int (X.fdiv Y), .ref xr, ur] := SqT.of hz
  have hR : SqT K H xr [.int (X.fmod Y), .int Y] := SqT.of hx
  have sY : Sm Y := x6 bY
  have sD : Sm (X.fdiv Y) := by
    refine Nat.lt_of_le_of_lt ?_ (x6 (m := 3000) bX)
    rw [Int.fdiv_eq_ediv_of_nonneg _ (by omega)]
    exact Int.natAbs_ediv_le_natAbs _ _
  obtain ⟨zu, xu, rfl, sqU⟩ := hw.tup
  refine ⟨_, (qG (jQ (PW.pt (jf (jI (jF (qR qg rfl T.b_isinstance rfl (qA (pv 0) (qA (xV rfl T.b_tuple rfl) qC))))) (jf (qM xW (qR qo rfl T.b_len rfl (qA (pv 0) qC)) qB (qN _)) (jf (qM (vO hu) (qK qJ (pv 0) qB (fun _ _ => rfl)) (pv 4) (qN _)) (ja (jI (jF (qR kB rfl T.b_isinstance rfl (qA (qK qJ (pv 0) qB (fun _ _ => rfl)) (qA (xV rfl T.b_tuple rfl) qC)))))))))) (qH (qX xa)) qc)
      (qG (qAk (pv 0) (v3 rfl (jb (jP (i := 5) sc__law_row_right.nd rfl (Or.inl rfl)) (jb (jP (i := 6) sc__law_row_right.nd rfl (Or.inl rfl)) (jb (jP (i := 7) sc__law_row_right.nd rfl (Or.inl rfl)) km)))))
      (qG (jQ (PW.pt (jf (jI (jF (qR qg rfl T.b_isinstance rfl (qA (pv 5) (qA (xV rfl T.b_int rfl) qC))))) (jf (jF (qR qg rfl T.b_isinstance rfl (qA (pv 5) (qA (xV rfl T.b_bool rfl) qC)))) (jf (jI (jF (qR qg rfl T.b_isinstance rfl (qA (pv 6) (qA (xV rfl T.b_tuple rfl) qC))))) (ja (qM xW (qR qo rfl T.b_len rfl (qA (pv 6) qC)) qB (qN _))))))) (qH (qX xa)) qc)
      (qG (jQ (PW.pt (jf (qM vz (qK qJ (pv 6) qB (fun _ _ => rfl)) qB (qN _)) (jf (qM qB0 (qK qJ (pv 6) qB (fun _ _ => rfl)) (qK qJ (pv 6) qB (fun _ _ => rfl)) (qN _)) (ja (PW.pt (xw (qM jp (qK qJ (pv 6) qB (fun _ _ => rfl)) qB (qN _)) (xc (qM xW (qK qJ (pv 6) qB (fun _ _ => rfl)) qB (qN _))))))))) (qH (qX xa)) qc)
      (qG (qY (i := 8) sc__law_row_right.nd rfl (Or.inl rfl) (qI qp (qI qp (qI jO (qI qp (pv 5) (qK qJ (pv 6) qB (fun _ _ => rfl))) (qK qJ (pv 6) qB (fun _ _ => rfl))) (qK qJ (pv 2) qB (fun _ _ => rfl))) (qK qJ (pv 3) qB (fun _ _ => rfl))))
      (qH (qX (jq jp (pv 8) (qI qp (qI qp (qI qp (pv 1) (qK qJ (pv 3) qB (fun _ _ => rfl))) (qK qJ (pv 2) qB (fun _ _ => rfl))) (qK qJ (pv 6) qB (fun _ _ => rfl))) (qN _))))))))), ?_⟩
  try dsimp only [j8, jH]
  refine ⟨_, rfl, _, _, _, true, rfl, .tup hz, ⟨_, .inl ⟨rfl, by kernel_rfl⟩⟩, true, rfl, jR ?_⟩
  refine ⟨_, rfl, _, _, rfl, .inr hT, rfl, _, rfl, jR ?_⟩
  refine ⟨_, rfl, _, _, _, _, rfl, rfl, hT, rfl, _, rfl, qDp hw hu2 ⟨_, rfl, jR ?_⟩⟩
  refine ⟨_, rfl, _, _, _, _, rfl, rfl, hT, rfl, zu, _, _, true, rfl, .inl ⟨_, sqU, rfl⟩, by kernel_rfl, true, rfl, jR ?_⟩
  refine ⟨_, rfl, z, _, rfl, hT, rfl, _, _, rfl, _, _, rfl, _, _, rfl, rfl, ?_⟩
  refine ⟨_, rfl, _, _, _, true, rfl, .int _, ⟨_, .inl ⟨rfl, by kernel_rfl⟩⟩, true, rfl, jR ?_⟩
  refine ⟨_, rfl, _, _, _, false, rfl, .int _, ⟨_, .inl ⟨rfl, by kernel_rfl⟩⟩, false, rfl, jR ?_⟩
  refine ⟨_, rfl, _, _, _, true, rfl, .tup hx, ⟨_, .inl ⟨rfl, by kernel_rfl⟩⟩, true, rfl, jR ?_⟩
  refine ⟨_, rfl, _, _, rfl, .inr hR, rfl, _, rfl, jR ?_⟩
  refine ⟨_, rfl, _, _, _, _, rfl, rfl, hR, at0, _, _, rfl, rfl, _, rfl, ?_⟩
  rw [decide_eq_false (by omega)]
  refine jR ⟨_, rfl, _, _, _, _, rfl, rfl, hR, at0, _, rfl, _, _, _, _, rfl, rfl, hR, at1, _, _, rfl, rfl, _, rfl, ?_⟩
  rw [decide_eq_false (by omega)]
  refine jR ⟨_, rfl, _, _, _, _, rfl, rfl, hR, at0, rfl, _, rfl, ?_⟩
  have fin : SqT K H zx [.int r0, .int r1] := SqT.of ex
  have fin2 : SqT K H zy [.int o0, .int o1] := SqT.of ey
  have sm1 : Sm (b * o0 * r1) := by
    have h1 : o0.natAbs < 2 ^ 20 := by omega
    have h2 : r1.natAbs < 2 ^ 20 := by omega
    exact x6 (jE (jE bb h1) h2)
  have fin3 : ∀ (σ' : L2.St), σ' = [some (.ref z), some (.int b), some (.ref zx), some (.ref zy), some u, some (.int (X.fdiv Y)), some (.ref xr), some (.ref zu), none] → True := fun _ _ => trivial
  by_cases h0 : X.fmod Y = 0
  · have hY := f1 h0
    rw [decide_eq_true (by rw [h0])]
    refine x9 ⟨_, rfl, _, _, _, _, rfl, rfl, hR, at1, rfl, _, rfl, ?_⟩
    rw [show (!decide (V.int Y = V.int 1)) = false by rw [hY]; rfl]
    refine jR ?_
    refine ⟨_, rfl, _, rfl, _, _, _, _, rfl, rfl, hR, at1, _, _, rfl, rfl, sD.mul sY, _, rfl, _, _, _, _, rfl, rfl, hR, at0, _, _, rfl, rfl, _, rfl, _, _, _, _, rfl, rfl, fin, at0, _, _, rfl, rfl, cmR (by omega) (by omega), _, rfl, _, _, _, _, rfl, rfl, fin2, at1, _, _, rfl, rfl, cmR (by omega) (by omega), ?_⟩
    refine ⟨_, rfl, _, rfl, _, rfl, _, _, _, _, rfl, rfl, fin2, at0, _, _, rfl, rfl, cmR (by omega) (by omega), _, rfl, _, _, _, _, rfl, rfl, fin, at1, _, _, rfl, rfl, cmR (by omega) (by omega), _, rfl, _, _, _, _, rfl, rfl, hR, at1, _, _, rfl, rfl, sm1.mul sY, rfl, ?_⟩
    have ed : decide (V.int ((X.fdiv Y * Y + X.fmod Y) * r0 * o1) = V.int (b * o0 * r1 * Y)) = true := decide_eq_true (congrArg V.int told)
    dsimp only
    rw [ed]
    exact kk
  · have : ¬ V.int (X.fmod Y) = V.int 0 := fun z => h0 (by injection z)
    rw [decide_eq_false this]
    refine jR (jR ?_)
    refine ⟨_, rfl, _, rfl, _, _, _, _, rfl, rfl, hR, at1, _, _, rfl, rfl, sD.mul sY, _, rfl, _, _, _, _, rfl, rfl, hR, at0, _, _, rfl, rfl, _, rfl, _, _, _, _, rfl, rfl, fin, at0, _, _, rfl, rfl, cmR (by omega) (by omega), _, rfl, _, _, _, _, rfl, rfl, fin2, at1, _, _, rfl, rfl, cmR (by omega) (by omega), ?_⟩
    refine ⟨_, rfl, _, rfl, _, rfl, _, _, _, _, rfl, rfl, fin2, at0, _, _, rfl, rfl, cmR (by omega) (by omega), _, rfl, _, _, _, _, rfl, rfl, fin, at1, _, _, rfl, rfl, cmR (by omega) (by omega), _, rfl, _, _, _, _, rfl, rfl, hR, at1, _, _, rfl, rfl, sm1.mul sY, rfl, ?_⟩
    have ed : decide (V.int ((X.fdiv Y * Y + X.fmod Y) * r0 * o1) = V.int (b * o0 * r1 * Y)) = true := decide_eq_true (congrArg V.int told)
    dsimp only
    rw [ed]
    exact kk
def zE : Sp := fun vs H Q _ => ∃ (z : Addr) (p q : Int), vs = [.ref z] ∧ H z = some (.tup [.int p, .int q]) ∧ 0 ≤ p ∧ 0 < q ∧ Int.gcd p q = 1 ∧ Q (.bl true) H
theorem j3 (T : Tx K mg a) : FnOk P w K mg base CX0 1 a.a__law_lowest a.f__law_lowest ["_law_one"] zE := by
  refine T.d__law_lowest.F.ok sc__law_lowest (fun vs H Q E h => ?_) (fun cdv A outer s H vs Q E hr h => ?_)
  · obtain ⟨z, p, q, rfl, _⟩ := h
    rfl
  obtain ⟨z, p, q, rfl, hz, hp, hq, hg, kk⟩ := h
  refine ⟨_, (qG (qAk (pv 0) (v3 rfl (jb (jP (i := 1) sc__law_lowest.nd rfl (Or.inl rfl)) (jb (jP (i := 2) sc__law_lowest.nd rfl (Or.inl rfl)) km))))
      (qG (vP PassesOwn.never (qM xW (pv 2) qB (qN _)) (qH (qBx (i := 1) (j := 2) rfl sc__law_lowest.nd rfl rfl (by decide) rfl rfl (qA (pv 2) (qA (qI qU (pv 1) (pv 2)) qC)) rfl)))
      (qH (qX (jq jp (pv 1) qB (qN _)))))), ?_⟩
  try dsimp only [j8, jH]
  refine ⟨_, rfl, z, _, rfl, SqT.of hz, rfl, _, _, rfl, _, _, rfl, rfl, ?_⟩
  refine vQ (fun σ H' => H' = H ∧ ∃ x y : Int, σ = [some (.ref z), some (.int x), some (.int y)] ∧ 0 ≤ x ∧ 0 ≤ y ∧ Int.gcd x y = Int.gcd p q)
    (fun σ _ => match σ with | [_, _, some (.int y)] => y.natAbs | _ => 0) ⟨rfl, _, _, rfl, hp, by omega, rfl⟩ ?_ ?_
  · rintro σ H1 ⟨rfl, x, y, rfl, h0, h1, e⟩
    refine ⟨_, rfl, rfl, _, rfl, ?_⟩
    refine zH (fun c => ?_) (fun c => ?_)
    · have hy : y ≠ 0 := by simpa using c
      refine ⟨_, rfl, _, rfl, _, rfl, _, _, rfl, rfl, hy, _, _, rfl, ⟨rfl, y, x.fmod y, rfl, h1, Int.fmod_nonneg_of_pos x (by omega), ?_⟩, ?_⟩
      · rw [jx]; exact e
      · exact wH x y hy
    · have hy : y = 0 := by simpa using c
      subst hy
      have e2 : x = 1 := by
        rw [Int.gcd_zero_right, hg] at e
        omega
      subst e2
      exact ⟨_, rfl, rfl, kk⟩
  · rintro σ H1 Q1 Q2 hq h
    obtain ⟨v, e, s, k, hk, z⟩ := h
    exact ⟨v, e, s, k, hk, hq _ _ z⟩
def xf (K : W.Frag) : Sp := fun vs H Q _ => ∃ (t x y : V) (b c : Bool) (k : Int), vs = [t, x, y, .int k] ∧ RtB K H x b ∧ RtB K H y c ∧ (b && c) = false ∧ ∀ H', Same H H' → Q (.bl true) H'
theorem jr (T : Tx K mg a) : FnOk P w K mg base CX0 9 a.a__law_refused a.f__law_refused ["_law_track_here", "_law_rate_here", "_law_other", "_law_kind"] (xf K) := by
  refine T.d__law_refused.F.ok sc__law_refused (fun vs H Q E h => ?_) (fun cdv A outer s H vs Q E hr h => ?_)
  · obtain ⟨t, x, y, b, c, k, rfl, _⟩ := h
    rfl
  obtain ⟨t, x, y, b, c, k, rfl, hx, hy, hbc, kk⟩ := h
  refine ⟨_, (qG (qY (i := 4) sc__law_refused.nd rfl (Or.inl rfl) xa)
      (qG (qCg (fun B H' => B = .ref a.k_NoNumber ∧ Same H H') (.some (i := 5) rfl rfl) sc__law_refused.nd rfl T.c_NoNumber (fun _ => (qH (jQ (qM jp (pv 3) qB (qN _)) (qH (jl (zQ T.d_written (xZ T) hr rfl (qA (pv 0) (qA (pv 1) (qA (pv 2) qC)))))) (qH (jl (zQ T.d_holds_all (zh T) hr rfl (qA (pv 0) (qA (pv 1) (qA (pv 2) qC))))))))) (fun _ _ => (qH (qY (i := 4) sc__law_refused.nd rfl (Or.inl rfl) (wS (qR (zN (K := K) rfl) rfl T.b_isinstance rfl (qA (pv 5) (qA (xg (v := .ref a.k_NoList) rfl T.c_NoList rfl) qC))))))))
      (qH (qX (pv 4))))), ?_⟩
  try dsimp only [j8, jH]
  refine ⟨?_, ?_⟩
  · refine ⟨_, rfl, rfl, _, rfl, zH (fun _ => ?_) (fun _ => ?_)⟩
    · exact ⟨_, rfl, _, rfl, _, rfl, t, x, y, b, c, rfl, hx, hy, hbc, rfl, Same.refl _⟩
    · exact ⟨_, rfl, _, rfl, _, rfl, t, x, y, b, c, rfl, hx, hy, hbc, rfl, Same.refl _⟩
  · rintro ea B σ' H' ⟨rfl, sH⟩ hn hl
    obtain ⟨o1, o2, o3, o4, o5, o6, rfl⟩ : ∃ o1 o2 o3 o4 o5 o6, σ' = [o1, o2, o3, o4, o5, o6] := by
      match σ', hl with
      | [o1, o2, o3, o4, o5, o6], _ => exact ⟨o1, o2, o3, o4, o5, o6, rfl⟩
    refine ⟨T.m_NoNumber, ?_⟩
    refine ⟨_, rfl, ea, _, _, false, rfl, qD, T.e_NoNumber, .inr ⟨_, rfl, T.i_NL⟩, _, rfl, ?_⟩
    exact ⟨_, rfl, kk _ (sH.trans (qE hn _))⟩
theorem wu {p q k : Int} (h : RtF p q) (k0 : 1 ≤ k) (k1 : k ≤ 7) (h1 : ¬ ((p * k).fmod 7 = 0 ∧ q = 1001)) (h2 : ¬ ((p * k).fmod 3 = 0 ∧ q = 3)) : 0 < p * k ∧ Int.gcd (p * k) q = 1 ∧ p * k < 1000000 := by
  have hk : k = 1 ∨ k = 2 ∨ k = 3 ∨ k = 4 ∨ k = 5 ∨ k = 6 ∨ k = 7 := by omega
  rcases h with ⟨rfl, h3, h4⟩ | ⟨rfl, rfl⟩ | ⟨rfl, rfl⟩ | ⟨rfl, rfl⟩
  · refine ⟨Int.mul_pos (by omega) (by omega), by simp, ?_⟩
    have := qAl (x := p) (y := k) (X := 901) (Y := 8) (by omega) (by omega) (by omega) (by omega)
    omega
  · rcases hk with rfl | rfl | rfl | rfl | rfl | rfl | rfl
    all_goals first | exact ⟨by decide, by decide, by decide⟩ | exact absurd ⟨by decide, rfl⟩ h1
  · rcases hk with rfl | rfl | rfl | rfl | rfl | rfl | rfl
    all_goals first | exact ⟨by decide, by decide, by decide⟩ | exact absurd ⟨by decide, rfl⟩ h2
  · rcases hk with rfl | rfl | rfl | rfl | rfl | rfl | rfl
    all_goals first | exact ⟨by decide, by decide, by decide⟩ | exact absurd ⟨by decide, rfl⟩ h1
theorem qBs (T : Tx K mg a) : FnOk P w K mg base CX0 12 a.a_law a.f_law ["_law_script"] (qAf K) := by
  refine T.d_law.F.ok sc_law (fun vs H Q E h => ?_) (fun cdv A outer s H vs Q E hr h => ?_)
  · obtain ⟨a, ns, rfl, _⟩ := h
    rfl
  obtain ⟨z, ns, rfl, hS, hlen, kk⟩ := h
  have hu := hr.units
  have hu0 := hr.units0
  refine ⟨_, (qG (qY (i := 1) sc_law.nd rfl (Or.inl rfl) (qS T.d__law_cell_at (ju T) hr rfl (qA (pv 0) (qA qB qC))))
      (qG (qY (i := 2) sc_law.nd rfl (Or.inl rfl) (qS T.d__law_rate (xP T) hr rfl (qA (qK qZ (qS T.d__law_drawn (jn T) hr rfl (qA (pv 1) (qA qB qC))) qB (fun _ _ => rfl)) qC)))
      (qG (qY (i := 3) sc_law.nd rfl (Or.inl rfl) (qS T.d__law_rate (xP T) hr rfl (qA (qK qZ (qS T.d__law_drawn (jn T) hr rfl (qA (qI qd (pv 1) qB) (qA qB qC))) qB (fun _ _ => rfl)) qC)))
      (qG (zj (jQ (qM jp (qI qU (pv 1) qB) qB (qN _)) (qG (qY (i := 3) sc_law.nd rfl (Or.inl rfl) (qf (qA (qI qp (qK qJ (pv 2) qB (fun _ _ => rfl)) (qI jO qB (qI qU (qI qd (pv 1) qB) qB))) (qA (qK qJ (pv 2) qB (fun _ _ => rfl)) qC))))
      (qH (jQ (vD (PW.pt (jf (PW.pt (xw (qM jp (qI qU (qK qJ (pv 3) qB (fun _ _ => rfl)) qB) qB (qN _)) (xc (qM jp (qK qJ (pv 3) qB (fun _ _ => rfl)) qB (qN _))))) (ja (PW.pt (xw (qM jp (qI qU (qK qJ (pv 3) qB (fun _ _ => rfl)) qB) qB (qN _)) (xc (qM jp (qK qJ (pv 3) qB (fun _ _ => rfl)) qB (qN _))))))))) (qH (qY (i := 3) sc_law.nd rfl (Or.inl rfl) (pv 2))) qc))) qc))
      (qG (qY (i := 4) sc_law.nd rfl (Or.inl rfl) (qS T.d__law_track (zf T) hr rfl (qA (ze qAu (pv 0) (za qB) (za qB)) qC)))
      (qG (qY (i := 5) sc_law.nd rfl (Or.inl rfl) (wV z7 rfl T.b_list rfl (qA (pv 4) qC)))
      (qG (qY (i := 6) sc_law.nd rfl (Or.inl rfl) (qS T.d_written (zJ T) hr rfl (qA (pv 5) (qA (pv 2) (qA (pv 3) qC)))))
      (qG (jQ (PW.pt (jf (jI (jF (qR qg rfl T.b_isinstance rfl (qA (pv 6) (qA (xV rfl T.b_list rfl) qC))))) (jf (qM xW (qR qo rfl T.b_len rfl (qA (pv 6) qC)) (qI jO (qR qo rfl T.b_len rfl (qA (pv 4) qC)) qB) (qN _)) (ja (qM (vO hu) (pv 5) (pv 4) (qN _)))))) (qH (qX xa)) qc)
      (qG (qY (i := 7) sc_law.nd rfl (Or.inl rfl) qB)
      (qG (vJ PassesOwn.never rfl (xy rfl T.b_range (qA (qR qo rfl T.b_len rfl (qA (pv 4) qC)) qC)) (jP (i := 8) sc_law.nd rfl (Or.inl rfl)) (qG (qY (i := 9) sc_law.nd rfl (Or.inl rfl) (qK qZ (pv 4) (pv 8) (fun _ _ => rfl)))
      (qG (zj (jQ (qM xW (qK qJ (qK qZ (pv 4) (pv 8) (fun _ _ => rfl)) qB (fun _ _ => rfl)) jB (qN _)) (qH (qY (i := 9) sc_law.nd rfl (Or.inl rfl) (ze qAr (qK qZ (pv 4) (pv 8) (fun _ _ => rfl)) v8 (za (xC jc qB))))) qc))
      (qG (jQ (PW.pt (jf (jI (jF (qS T.d__law_row_right (ji T) hr rfl (qA (qK qZ (pv 6) (pv 8) (fun _ _ => rfl)) (qA (pv 7) (qA (pv 2) (qA (pv 3) (qA (pv 9) qC)))))))) (ja (jI (jF (qS T.d__law_lowest (j3 T) hr rfl (qA (qK qJ (qK qZ (pv 6) (pv 8) (fun _ _ => rfl)) qB (fun _ _ => rfl)) qC))))))) (qH (qX xa)) qc)
      (qH (zj (jQ (qM xW (qK qJ (qK qZ (pv 4) (pv 8) (fun _ _ => rfl)) qB (fun _ _ => rfl)) jB (qN _)) (qH (qY (i := 7) sc_law.nd rfl (Or.inl rfl) (qI jO (pv 7) (qK qJ (qK qZ (pv 4) (pv 8) (fun _ _ => rfl)) (xC jc qB) (fun _ _ => rfl))))) qc)))))))
      (qG (jQ (PW.pt (jf (jI (jF (qS T.d__law_row_right (ji T) hr rfl (qA (qK qZ (pv 6) (xC jc qB) (fun _ _ => rfl)) (qA (pv 7) (qA (pv 2) (qA (pv 3) (qA (qf (qA jB qC)) qC)))))))) (ja (jI (jF (qS T.d__law_lowest (j3 T) hr rfl (qA (qK qJ (qK qZ (pv 6) (xC jc qB) (fun _ _ => rfl)) qB (fun _ _ => rfl)) qC))))))) (qH (qX xa)) qc)
      (qG (qY (i := 10) sc_law.nd rfl (Or.inl rfl) (qS T.d_holds_all (kS T) hr rfl (qA (pv 5) (qA (pv 2) (qA (pv 3) qC)))))
      (qG (jQ (PW.pt (jf (jI (jF (qR qg rfl T.b_isinstance rfl (qA (pv 10) (qA (xV rfl T.b_bool rfl) qC))))) (ja (qM xW (pv 10) (qR (x5 rfl) rfl T.b_all rfl (qA (qBj [] [] rfl (zc (pv 6)) (fun _ _ _ _ => (jq (ki (K := K) rfl hu0) (qK (qA8 (K := K) rfl) (pv 0) qB (fun _ _ => rfl)) (qf (qA qB (qA qB qC))) (qN _)))) qC)) (qN _))))) (qH (qX xa)) qc)
      (qG (qY (i := 11) sc_law.nd rfl (Or.inl rfl) (qK qZ (jZ (qA (qf (qA qB (qA qB qC))) (qA (qf (qA (xC jc qB) (qA qB qC))) (qA (qf (qA qB (qA qB qC))) (qA qB (qA qCi (qA (jZ (qA qB (qA qB qC))) (qA (qf (qA qB (qA xa qC))) qC)))))))) (qI qU (qS T.d__law_cell_at (ju T) hr rfl (qA (pv 0) (qA qB qC))) qB) (fun _ _ => rfl)))
      (qH (qX (kA (qS T.d__law_refused (jr T) hr rfl (qA (pv 4) (qA (pv 11) (qA (pv 3) (qA (qI qU (pv 1) qB) qC))))) (kM (qS T.d__law_refused (jr T) hr rfl (qA (pv 4) (qA (pv 2) (qA (pv 11) (qA (qI qU (qI qd (pv 1) qB) qB) qC))))))))))))))))))))))), ?_⟩
  try dsimp only [j8, jH]
  refine ⟨_, rfl, z, ns, 0, rfl, hS, hlen, by decide, fun c => ?_⟩
  refine ⟨_, rfl, c, 3, rfl, by decide, by decide, fun zx xs hzx hxl hx => ?_⟩
  have w1 := qE hzx (.lst (xs.map V.int))
  obtain ⟨x0, x1, x2, rfl⟩ : ∃ x0 x1 x2 : Int, xs = [x0, x1, x2] := by
    match xs, hxl with
    | [x0, x1, x2], _ => exact ⟨x0, x1, x2, rfl⟩
  refine ⟨zx, _, _, .int x2, rfl, rfl, SqL.of qD, rfl, x2, rfl, fun vr r0 r1 H1 w2 hR hRF => ?_⟩
  have e1 := w1.trans w2
  refine ⟨_, rfl, _, _, rfl, rfl, cdB (by decide) (by decide), _, 4, rfl, by decide, by decide, fun zy ys hzy hyl hy => ?_⟩
  have w3 := qE hzy (.lst (ys.map V.int))
  obtain ⟨y0, y1, y2, y3, rfl⟩ : ∃ x0 x1 x2 x3 : Int, ys = [x0, x1, x2, x3] := by
    match ys, hyl with
    | [x0, x1, x2, x3], _ => exact ⟨x0, x1, x2, x3, rfl⟩
  refine ⟨zy, _, _, .int y3, rfl, rfl, SqL.of qD, rfl, y3, rfl, fun vo o0 o1 H2 w4 hO hOF => ?_⟩
  have e2 := (e1.trans w3).trans w4
  have hR := hR.same (w3.trans w4)
  clear w1 w2 w3 w4 e1 hx hy hxl hyl
  refine ⟨fun σ H' => ∃ (vo : V) (o0 o1 : Int), σ = [some (.ref z), some (.int c), some vr, some vo, none, none, none, none, none, none, none, none] ∧ Same H H' ∧ Rate H' vr r0 r1 ∧ Rate H' vo o0 o1, ?_, ?_⟩
  · refine ⟨_, rfl, _, _, rfl, rfl, nz, rfl, _, rfl, zH (fun _ => ?_) (fun _ => ⟨vo, o0, o1, rfl, e2, hR, hO⟩)⟩
    obtain ⟨zq, rfl, er⟩ := hR.ex
    have q1 := hR.q0
    have q2 := hR.bq
    have f5 := fm (c.fdiv 5) (show (0 : Int) < 7 by decide)
    refine ⟨_, rfl, _, _, _, _, rfl, rfl, SqT.of er, at0, _, rfl, _, _, rfl, rfl, cdB (by decide) (by decide), _, _, rfl, rfl, nz, _, _, rfl, rfl, _, _, rfl, rfl, cmR (by omega) (by omega), _, rfl, _, _, _, _, rfl, rfl, SqT.of er, at1, two, fun zn hzn => ?_⟩
    have w5 := qE hzn (.tup [.int (r0 * (1 + (c.fdiv 5).fmod 7)), .int r1])
    have hn : SqT K (upd H2 zn (.tup [.int (r0 * (1 + (c.fdiv 5).fmod 7)), .int r1])) zn [.int (r0 * (1 + (c.fdiv 5).fmod 7)), .int r1] := SqT.of qD
    have hn' : (upd H2 zn (.tup [.int (r0 * (1 + (c.fdiv 5).fmod 7)), .int r1])) zn = some (.tup [.int (r0 * (1 + (c.fdiv 5).fmod 7)), .int r1]) := qD
    have e3 := e2.trans w5
    have hR := hR.same w5
    generalize upd H2 zn (.tup [.int (r0 * (1 + (c.fdiv 5).fmod 7)), .int r1]) = H3 at w5 hn hn' e3 hR ⊢
    generalize hk : 1 + (c.fdiv 5).fmod 7 = k at hn hn' ⊢
    have k0 : 1 ≤ k := by omega
    have k1 : k ≤ 7 := by omega
    refine ⟨fun b H4 => H4 = H3 ∧ (b = false → ¬ ((r0 * k).fmod 7 = 0 ∧ r1 = 1001) ∧ ¬ ((r0 * k).fmod 3 = 0 ∧ r1 = 3)), ?_, ?_⟩
    · refine ⟨_, rfl, _, _, _, _, rfl, rfl, hn, at0, _, _, rfl, rfl, nz, rfl, _, rfl, zH (fun c1 => ?_) (fun c1 => ?_)⟩
      · refine ⟨_, rfl, _, _, _, _, rfl, rfl, hn, at1, rfl, _, rfl, zH (fun _ => ⟨rfl, fun z => by cases z⟩) (fun c2 => ?_)⟩
        have n1 : ¬ ((r0 * k).fmod 7 = 0 ∧ r1 = 1001) := fun z => by simp [z.2] at c2
        refine ⟨_, rfl, _, _, _, _, rfl, rfl, hn, at0, _, _, rfl, rfl, nz, rfl, _, rfl, zH (fun c3 => ?_) (fun c3 => ⟨rfl, fun _ => ⟨n1, fun z => by simp [z.1] at c3⟩⟩)⟩
        exact ⟨_, rfl, _, _, _, _, rfl, rfl, hn, at1, rfl, _, rfl, rfl, fun z => ⟨n1, fun q => by simp [q.2] at z⟩⟩
      · have n1 : ¬ ((r0 * k).fmod 7 = 0 ∧ r1 = 1001) := fun z => by simp [z.1] at c1
        refine jR ⟨_, rfl, _, _, _, _, rfl, rfl, hn, at0, _, _, rfl, rfl, nz, rfl, _, rfl, zH (fun c3 => ?_) (fun c3 => ⟨rfl, fun _ => ⟨n1, fun z => by simp [z.1] at c3⟩⟩)⟩
        exact ⟨_, rfl, _, _, _, _, rfl, rfl, hn, at1, rfl, _, rfl, rfl, fun z => ⟨n1, fun q => by simp [q.2] at z⟩⟩
    rintro b H4 ⟨rfl, hb⟩
    cases b with
    | true => exact x9 ⟨_, rfl, _, r0, r1, rfl, e3, hR, hR⟩
    | false =>
      obtain ⟨h1, h2⟩ := hb rfl
      obtain ⟨g0, g1, g2⟩ := wu hRF k0 k1 h1 h2
      exact jR ⟨_, _, _, rfl, e3, hR, ⟨⟨zn, rfl, hn'⟩, g0, q1, g1, g2, q2⟩⟩
  clear hO hOF hR hRF e2
  rintro σ H2 ⟨vo, o0, o1, rfl, e2, hR, hO⟩
  refine ⟨_, rfl, _, rfl, _, rfl, z, _, rfl, e2.seq hS, fun sc hsc => ?_⟩
  obtain ⟨ns', hms, hml⟩ := wv ns (some 2) (some 12)
  rw [hms]
  have w1 := qE hsc (.lst (ns'.map V.int))
  refine ⟨sc, ns', rfl, SqL.of qD, by omega, fun y ms H3 w2 hy0 hT hml2 hG hC hnm hng => ?_⟩
  have e3 := e2.trans (w1.trans w2)
  have hR := hR.same (w1.trans w2)
  have hO := hO.same (w1.trans w2)
  have hB : Bd ms := ⟨by omega, fun m hm => (hG m hm).mo⟩
  obtain ⟨vs, hyv, hiv⟩ := hT
  refine ⟨_, rfl, y, vs, rfl, .inl (SqL.of hyv), fun h hh => ?_⟩
  have w3 := qE hh (.lst vs)
  have tH : Tr (upd H3 h (.lst vs)) h ms := ⟨vs, qD, hiv.ts (qO w3)⟩
  have e4 := e3.trans w3
  have hR := hR.same w3
  have hO := hO.same w3
  have hyv := w3 _ _ hyv
  have hiv := hiv.ts (qO w3)
  clear hms w1 w2 hsc e2 e3 hh
  generalize upd H3 h (.lst vs) = H4 at tH e4 hR hO hyv hiv ⊢
  refine ⟨_, rfl, _, rfl, _, rfl, h, ms, vr, vo, r0, r1, o0, o1, rfl, tH, hB, hR, hO, fun l us H5 w5 l0 hl rv => ?_⟩
  have e5 := e4.trans w5
  have hR := hR.same w5
  have hO := hO.same w5
  have hyv := w5 _ _ hyv
  have hiv := hiv.ts (qO w5)
  have tH := tH.same w5
  have tY : Tr H5 y ms := ⟨vs, hyv, hiv⟩
  have hvl : vs.length = ms.length := hiv.len
  have hul : us.length = ms.length + 1 := by rw [rv.len, vF]
  refine ⟨_, rfl, _, _, _, true, rfl, .lst hl, ⟨_, .inl ⟨rfl, by kernel_rfl⟩⟩, true, rfl, jR ?_⟩
  refine ⟨_, rfl, l, us, rfl, .inl (SqL.of hl), _, rfl, y, vs, rfl, .inl (SqL.of hyv), _, _, rfl, rfl, rfl, _, rfl, ?_⟩
  have ed : (!decide (V.int (us.length : Int) = V.int ((vs.length : Int) + 1))) = false := by rw [hul, hvl]; simp
  rw [ed]
  refine jR ⟨_, rfl, _, rfl, qDs tH tY ⟨_, rfl, jR ?_⟩⟩
  have hvl1 : vs.length ≤ 126 := by omega
  refine ⟨_, rfl, y, vs, rfl, .inl (SqL.of hyv), _, rfl, by omega, by omega, xn (n := ((vs.length : Nat) : Int).toNat) (fun i σ H' => ∃ (o1' o2' : Option V), σ = [some (.ref z), some (.int c), some vr, some vo, some (.ref y), some (.ref h), some (.ref l), some (.int ((ms.take i).map Im.mo).sum), o1', o2', none, none] ∧ Same H5 H')
    ⟨none, none, rfl, Same.refl _⟩ ?_ ?_⟩
  · rintro i σ H' hi ⟨o1', o2', rfl, s6⟩
    have hi' : i < vs.length := by omega
    obtain ⟨v, hv⟩ : ∃ v, vs[i]? = some v := ⟨_, List.getElem?_eq_getElem hi'⟩
    obtain ⟨m, hm, hI⟩ := hiv.get hv
    have ai : ∀ {xs : List V} {v : V}, xs[i]? = some v → atI xs (0 + (i : Int)) = some v := fun h => by rw [Int.zero_add]; exact zd h
    have sv : ∀ {H' : Hp}, Same H5 H' → SqL K H' y vs := fun e => SqL.of (e _ _ hyv)
    refine ⟨_, rfl, _, rfl, y, vs, _, v, rfl, rfl, sv s6, ai hv, ?_⟩
    have hI6 := hI.ts (qO s6)
    obtain ⟨zi, xi, rfl, hzi, h0, h1⟩ := hI6.opn
    refine ⟨fun σ H7 => ∃ u, σ = [some (.ref z), some (.int c), some vr, some vo, some (.ref y), some (.ref h), some (.ref l), some (.int ((ms.take i).map Im.mo).sum), some (.int (0 + (i : Int))), some u, none, none] ∧ Same H' H7 ∧ WhV K H7 (some m) u, ?_, ?_⟩
    · refine ⟨_, rfl, _, rfl, y, vs, _, _, rfl, rfl, sv s6, ai hv, zi, xi, _, _, rfl, rfl, SqT.of hzi, h0, rfl, _, rfl, zH (fun c' => ?_) (fun c' => ?_)⟩
      · obtain ⟨z', xs', e', hz', hn, hw⟩ := qAs (K := K) hI6 (by simpa using c')
        cases e'
        exact ⟨_, rfl, _, rfl, y, vs, _, _, rfl, rfl, sv s6, ai hv, 1, rfl, _, rfl, zi, _, rfl, SqT.of hz', hn, fun t ht => ⟨_, rfl, qE ht _, hw t ht⟩⟩
      · obtain ⟨lm, rfl⟩ := wc (m := m) (by simpa using c')
        exact ⟨_, rfl, Same.refl _, qAp hI6⟩
    rintro σ H7 ⟨u, rfl, s7, hW⟩
    have s57 := s6.trans s7
    obtain ⟨rw', hrw, hRow⟩ := rv.get' (wl hm)
    have hRow7 := hRow.ts (qO s57)
    have sl : SqL K H7 l us := SqL.of (s57 _ _ hl)
    refine ⟨_, rfl, _, rfl, l, us, _, rw', rfl, rfl, sl, ai hrw, _, rfl, _, rfl, _, rfl, _, rfl, rw', vr, vo, u, _, r0, r1, o0, o1, some m, rfl, hRow7, hB.abs i, hR.same s57, hO.same s57, hW, true, rfl, jR ?_⟩
    obtain ⟨zw, xr, ur, rfl, er1, er2, _⟩ := hRow7
    have q0 : 0 < byQ r0 r1 o0 o1 := jd (wU hR.p0 hO.q0)
    have f := ke (P := byP r0 r1 o0 o1) (b := ((ms.take i).map Im.mo).sum) q0
    have g : Int.gcd ((wpP (byP r0 r1 o0 o1) (byQ r0 r1 o0 o1) ((ms.take i).map Im.mo).sum).fmod (wpQ (byP r0 r1 o0 o1) (byQ r0 r1 o0 o1) ((ms.take i).map Im.mo).sum)) (wpQ (byP r0 r1 o0 o1) (byQ r0 r1 o0 o1) ((ms.take i).map Im.mo).sum) = 1 := by
      rw [Int.gcd_comm, jx]; exact wM q0
    refine ⟨_, rfl, _, rfl, l, us, _, _, rfl, rfl, sl, ai hrw, zw, _, _, _, rfl, rfl, SqT.of er1, rfl, xr, _, _, rfl, er2, f.1, xq q0, g, true, rfl, jR ?_⟩
    refine ⟨fun σ H8 => ∃ (o2' : Option V), σ = [some (.ref z), some (.int c), some vr, some vo, some (.ref y), some (.ref h), some (.ref l), some (.int ((ms.take (i + 1)).map Im.mo).sum), some (.int (0 + (i : Int))), o2', none, none] ∧ H8 = H7, ?_, ?_⟩
    · have et : ((ms.take (i + 1)).map Im.mo).sum = ((ms.take i).map Im.mo).sum + m.mo := by rw [List.take_add_one, hm]; simp
      rw [et]
      have hz7 := s7 _ _ hzi
      refine ⟨_, rfl, _, rfl, y, vs, _, _, rfl, rfl, sv s57, ai hv, zi, xi, _, _, rfl, rfl, SqT.of hz7, h0, rfl, _, rfl, zH (fun c' => ?_) (fun c' => ?_)⟩
      · rw [qDk (by simpa using c')]
        exact ⟨_, rfl, _, rfl, _, rfl, y, vs, _, _, rfl, rfl, sv s57, ai hv, 1, rfl, zi, xi, _, _, rfl, rfl, SqT.of hz7, h1, _, _, rfl, rfl, _, rfl, rfl⟩
      · obtain ⟨lm, rfl⟩ := wc (m := m) (by simpa using c')
        refine ⟨some u, ?_, rfl⟩
        show _ = [some (V.ref z), some (.int c), some vr, some vo, some (.ref y), some (.ref h), some (.ref l), some (.int (((ms.take i).map Im.mo).sum + 0)), some (.int (0 + (i : Int))), some u, none, none]
        rw [Int.add_zero]
    rintro σ H8 ⟨o2', rfl, rfl⟩
    exact ⟨_, _, rfl, s57⟩
  rintro σ H6 ⟨o1', o2', rfl, s6⟩
  have em : ms.take vs.length = ms := by rw [hvl, List.take_length]
  have em' : ms.take ((vs.length : Nat) : Int).toNat = ms := by rw [Int.toNat_natCast]; exact em
  rw [em']
  have ba : ((ms.map Im.mo).sum).natAbs < 2 ^ 200 := by have := hB.abs vs.length; rwa [em] at this
  obtain ⟨rw', hrw, hRow⟩ := rv.get' (wg ms)
  have hrw' : us[us.length - 1]? = some rw' := by rw [hul]; exact hrw
  have hR := hR.same s6
  have hO := hO.same s6
  have e6 := e5.trans s6
  have rv := rv.ts (qO s6)
  have hl := s6 _ _ hl
  have tH := tH.same s6
  have tY := tY.same s6
  have hRow := hRow.ts (qO s6)
  refine ⟨_, rfl, _, rfl, l, us, _, rw', rfl, rfl, SqL.of hl, xH hrw', _, rfl, _, rfl, _, rfl, sL1, fun te he => ?_⟩
  have w7 := qE he (.tup [.str "end"])
  refine ⟨rw', vr, vo, _, _, r0, r1, o0, o1, none, rfl, hRow.ts (qO w7), ba, hR.same w7, hO.same w7, ⟨te, rfl, .inl qD⟩, true, rfl, jR ?_⟩
  have hR := hR.same w7
  have hO := hO.same w7
  have e7 := e6.trans w7
  have rv := rv.ts (qO w7)
  have hl := w7 _ _ hl
  have tH := tH.same w7
  have tY := tY.same w7
  have hRow := hRow.ts (qO w7)
  clear s6 e6 he
  generalize upd H6 te (.tup [.str "end"]) = H7 at hR hO e7 rv hl tH tY hRow ⊢
  obtain ⟨zw, xr, ur, rfl, er1, er2, _⟩ := hRow
  have q0 : 0 < byQ r0 r1 o0 o1 := jd (wU hR.p0 hO.q0)
  have f := ke (P := byP r0 r1 o0 o1) (b := (ms.map Im.mo).sum) q0
  have g : Int.gcd ((wpP (byP r0 r1 o0 o1) (byQ r0 r1 o0 o1) (ms.map Im.mo).sum).fmod (wpQ (byP r0 r1 o0 o1) (byQ r0 r1 o0 o1) (ms.map Im.mo).sum)) (wpQ (byP r0 r1 o0 o1) (byQ r0 r1 o0 o1) (ms.map Im.mo).sum) = 1 := by
    rw [Int.gcd_comm, jx]; exact wM q0
  refine ⟨_, rfl, _, rfl, l, us, _, _, rfl, rfl, SqL.of hl, xH hrw', zw, _, _, _, rfl, rfl, SqT.of er1, rfl, xr, _, _, rfl, er2, f.1, xq q0, g, true, rfl, jR ?_⟩
  refine ⟨_, rfl, _, rfl, _, rfl, h, ms, vr, vo, r0, r1, o0, o1, rfl, tH, hB, hR, hO, fun H8 w8 => ?_⟩
  have hR := hR.same w8
  have hO := hO.same w8
  have e8 := e7.trans w8
  have rv := rv.ts (qO w8)
  have hl := w8 _ _ hl
  clear tH tY er1 er2 f g e7
  generalize byP r0 r1 o0 o1 = BP at *
  generalize byQ r0 r1 o0 o1 = BQ at *
  refine ⟨_, rfl, _, _, _, true, rfl, .bl _, ⟨_, .inl ⟨rfl, by kernel_rfl⟩⟩, true, rfl, jR ?_⟩
  refine ⟨_, rfl, _, rfl, l, rfl, ⟨_, SqL.of hl⟩, vt (K := K) (a := l) (xs := us) (fun i acc H' => Same H8 H' ∧ acc = (((je ms).take i).map (zr BP BQ)).map V.bl) ⟨Same.refl _, rfl⟩ ?_ ?_ ?_⟩
  · rintro i acc H' hi ⟨s9, rfl⟩
    exact ⟨SqL.of (s9 _ _ hl), jY (by simp only [List.length_map, List.length_take]; omega)⟩
  · rintro i v acc H' hi hv ⟨s9, rfl⟩
    obtain ⟨r, hr', z4, x4, u4, rfl, q1, q2, _⟩ := rv.get hv
    refine ⟨_, rfl, z4, _, _, _, rfl, rfl, SqT.of (s9 _ _ q1), rfl, two, fun t ht => ?_⟩
    have w9 := qE ht (.tup [.int 0, .int 1])
    refine ⟨_, _, _, _, rfl, rfl, SqT.of (w9 _ _ (s9 _ _ q2)), SqT.of qD, rfl, rfl, Nxt.mk hi ⟨s9.trans w9, ?_⟩⟩
    rw [List.take_add_one, hr', List.map_append, List.map_append]
    rfl
  · rintro acc H' ⟨s9, rfl⟩ D hD
    have em : (je ms).take us.length = je ms := by rw [rv.len, List.take_length]
    rw [em]
    have w10 := qE hD (.lst (((je ms).map (zr BP BQ)).map V.bl))
    refine ⟨D, _, rfl, SqL.of qD, rfl, _, rfl, ?_⟩
    have ea : ((je ms).map (zr BP BQ)).all id = (je ms).all (zr BP BQ) := by rw [List.all_map]; rfl
    rw [ea]
    rw [show (!decide (V.bl ((je ms).all (zr BP BQ)) = V.bl ((je ms).all (zr BP BQ)))) = false by simp]
    refine jR ?_
    have e10 := e8.trans (s9.trans w10)
    have hR := hR.same (s9.trans w10)
    have hO := hO.same (s9.trans w10)
    clear rv hl hD w10
    generalize upd H' D _ = H9 at e10 hR hO ⊢
    refine ⟨two, fun t0 u0 => ⟨_, rfl, two, fun t1 u1 => ⟨two, fun t2 u2 => ⟨two, fun t5 u5 => ⟨two, fun t6 u6 => ⟨(by show 7 ≤ sizeLine; decide), fun lt ut => ?_⟩⟩⟩⟩⟩⟩
    have p0 := qE u0 (.tup [.int 0, .int 1])
    have p1 := qE u1 (.tup [.int (-24), .int 1])
    have p2 := qE u2 (.tup [.int 48, .int 2])
    have p5 := qE u5 (.lst [.int 24, .int 1])
    have p6 := qE u6 (.tup [.int 24, .bl true])
    have p7 := qE ut (.lst [.ref t0, .ref t1, .ref t2, .int 24, .non, .ref t5, .ref t6])
    have q6 := p7
    have q5 := p6.trans q6
    have q2 := p5.trans q5
    have q1 := p2.trans q2
    have q0' := p1.trans q1
    have qz := p0.trans q0'
    have i0 := q0' _ _ qD
    have i1 := q1 _ _ qD
    have i2 := q2 _ _ qD
    have i5 := q5 _ _ qD
    have i6 := q6 _ _ qD
    have it := qD (H := upd (upd (upd (upd (upd H9 t0 (.tup [.int 0, .int 1])) t1 (.tup [.int (-24), .int 1])) t2 (.tup [.int 48, .int 2])) t5 (.lst [.int 24, .int 1])) t6 (.tup [.int 24, .bl true])) (a := lt) (o := .lst [.ref t0, .ref t1, .ref t2, .int 24, .non, .ref t5, .ref t6])
    clear p0 p1 p2 p5 p6 p7 q0' q1 q2 q5 q6
    generalize upd (upd (upd (upd (upd (upd H9 t0 _) t1 _) t2 _) t5 _) t6 _) lt _ = H10 at qz i0 i1 i2 i5 i6 it ⊢
    have e11 := e10.trans qz
    refine ⟨_, rfl, z, ns, 1, rfl, e11.seq hS, hlen, by decide, fun c1 => ?_⟩
    have f7 := fm c1 (show (0 : Int) < 7 by decide)
    obtain ⟨vo', hv', hvm⟩ := atN (xs := [V.ref t0, .ref t1, .ref t2, .int 24, .non, .ref t5, .ref t6]) (n := 7) rfl f7.1 f7.2
    refine ⟨_, _, rfl, rfl, nz, lt, _, _, vo', rfl, rfl, SqL.of it, hv', ?_⟩
    have hno : ∃ b, b = false ∧ RtB K H10 vo' b := by
      simp only [List.mem_cons, List.not_mem_nil, or_false] at hvm
      rcases hvm with rfl | rfl | rfl | rfl | rfl | rfl | rfl
      · exact ⟨_, by decide, .nums i0 (by decide) (by decide) (xS (by decide) (by decide)) (xS (by decide) (by decide))⟩
      · exact ⟨_, by decide, .nums i1 (by decide) (by decide) (xS (by decide) (by decide)) (xS (by decide) (by decide))⟩
      · exact ⟨false, rfl, .no (by have := FrB.nums (K := K) i2; exact this)⟩
      · exact ⟨false, rfl, .no (.no (.int _) (by kernel_rfl))⟩
      · exact ⟨false, rfl, .no (.no .non (by kernel_rfl))⟩
      · exact ⟨false, rfl, .no (.no (.lst i5) (by kernel_rfl))⟩
      · exact ⟨false, rfl, .no (.two i6 (.bl true))⟩
    obtain ⟨_, rfl, hno⟩ := hno
    have hR := hR.same qz
    have hO := hO.same qz
    clear hv' hvm i0 i1 i2 i5 i6 it
    refine ⟨_, rfl, _, rfl, _, rfl, _, rfl, _, _, rfl, rfl, nz, _, vo', vo, false, true, _, rfl, hno, hO.rt, rfl, fun H11 w11 => ⟨true, rfl, x9 ?_⟩⟩
    exact ⟨_, rfl, _, rfl, _, rfl, _, rfl, _, _, rfl, rfl, cdB (by decide) (by decide), _, _, rfl, rfl, nz, _, vr, vo', true, false, _, rfl, (hR.same w11).rt, hno.same w11, rfl, fun H12 w12 => kk _⟩
end
theorem all_mk {l : W.OpenLaw} {w : World} {K : W.Frag} {h : Heap} {mg : Str → Option Value} {fa f0 f1 f2 f3 f4 f5 f6 f7 f8 f9 f10 f11 f12 f13 f14 f15 f16 f17 f18 f19 f20 f21 f22 f23 f24 C0 C1 C2 nNOUGHT nEND : Addr} (X : K.In h) (G : h.Ns mainGlobals mg) (hfa : mg "law" = some (.ref fa))
    {od0 an0 od1 an1 od2 an2 od3 an3 od4 an4 od5 an5 od6 an6 od7 an7 od8 an8 od9 an9 od10 an10 od11 an11 od12 an12 od13 an13 od14 an14 od15 an15 od16 an16 od17 an17 od18 an18 od19 an19 od20 an20 od21 an21 od22 an22 od23 an23 od24 an24 odNOUGHT odEND : Option Addr} {sl0 sl1 sl2 sl3 sl4 sl5 sl6 sl7 sl8 sl9 sl10 sl11 sl12 sl13 sl14 sl15 sl16 sl17 sl18 sl19 sl20 sl21 sl22 sl23 sl24 slNOUGHT slEND : Array (Option Value)} {oc0 kV0 dc0 pm0 cd0 ct0 oc1 kV1 dc1 pm1 cd1 ct1 oc2 kV2 dc2 pm2 cd2 ct2 oc3 kV3 dc3 pm3 cd3 ct3 oc4 kV4 dc4 pm4 cd4 ct4 oc5 kV5 dc5 pm5 cd5 ct5 oc6 kV6 dc6 pm6 cd6 ct6 oc7 kV7 dc7 pm7 cd7 ct7 oc8 kV8 dc8 pm8 cd8 ct8 oc9 kV9 dc9 pm9 cd9 ct9 oc10 kV10 dc10 pm10 cd10 ct10 oc11 kV11 dc11 pm11 cd11 ct11 oc12 kV12 dc12 pm12 cd12 ct12 oc13 kV13 dc13 pm13 cd13 ct13 oc14 kV14 dc14 pm14 cd14 ct14 oc15 kV15 dc15 pm15 cd15 ct15 oc16 kV16 dc16 pm16 cd16 ct16 oc17 kV17 dc17 pm17 cd17 ct17 oc18 kV18 dc18 pm18 cd18 ct18 oc19 kV19 dc19 pm19 cd19 ct19 oc20 kV20 dc20 pm20 cd20 ct20 oc21 kV21 dc21 pm21 cd21 ct21 oc22 kV22 dc22 pm22 cd22 ct22 oc23 kV23 dc23 pm23 cd23 ct23 oc24 kV24 dc24 pm24 cd24 ct24 : Value} {tNOUGHT_0 tNOUGHT_1 tEND_0 : Tok} {nnNOUGHT nnEND : Nat}
    (a0 : W.nsIn K mainGlobals "is_whole" = some (some (.ref f0))) (l0 : K.lookup f0 = some ⟨oc0, od0, .func (W.fnOf "is_whole" "is_whole" (qV jU) (qQ jU) (qF jU) .none kV0 dc0 pm0 an0 cd0 ct0), sl0⟩) (c0 : W.codeIn K cd0 "is_whole" = true) (k0 : W.keepIn K (.ref f0) = true)
    (a1 : W.nsIn K mainGlobals "common_divisor" = some (some (.ref f1))) (l1 : K.lookup f1 = some ⟨oc1, od1, .func (W.fnOf "common_divisor" "common_divisor" (qV qk) (qQ qk) (qF qk) .none kV1 dc1 pm1 an1 cd1 ct1), sl1⟩) (c1 : W.codeIn K cd1 "common_divisor" = true) (k1 : W.keepIn K (.ref f1) = true)
    (a2 : W.nsIn K mainGlobals "is_fraction" = some (some (.ref f2))) (l2 : K.lookup f2 = some ⟨oc2, od2, .func (W.fnOf "is_fraction" "is_fraction" (qV q8) (qQ q8) (qF q8) .none kV2 dc2 pm2 an2 cd2 ct2), sl2⟩) (c2 : W.codeIn K cd2 "is_fraction" = true) (k2 : W.keepIn K (.ref f2) = true)
    (a3 : W.nsIn K mainGlobals "fraction" = some (some (.ref f3))) (l3 : K.lookup f3 = some ⟨oc3, od3, .func (W.fnOf "fraction" "fraction" (qV jV) (qQ jV) (qF jV) .none kV3 dc3 pm3 an3 cd3 ct3), sl3⟩) (c3 : W.codeIn K cd3 "fraction" = true) (k3 : W.keepIn K (.ref f3) = true)
    (a4 : W.nsIn K mainGlobals "times_of" = some (some (.ref f4))) (l4 : K.lookup f4 = some ⟨oc4, od4, .func (W.fnOf "times_of" "times_of" (qV jT) (qQ jT) (qF jT) .none kV4 dc4 pm4 an4 cd4 ct4), sl4⟩) (c4 : W.codeIn K cd4 "times_of" = true) (k4 : W.keepIn K (.ref f4) = true)
    (a5 : W.nsIn K mainGlobals "quotient" = some (some (.ref f5))) (l5 : K.lookup f5 = some ⟨oc5, od5, .func (W.fnOf "quotient" "quotient" (qV jW) (qQ jW) (qF jW) .none kV5 dc5 pm5 an5 cd5 ct5), sl5⟩) (c5 : W.codeIn K cd5 "quotient" = true) (k5 : W.keepIn K (.ref f5) = true)
    (a6 : W.nsIn K mainGlobals "is_before" = some (some (.ref f6))) (l6 : K.lookup f6 = some ⟨oc6, od6, .func (W.fnOf "is_before" "is_before" (qV jK) (qQ jK) (qF jK) .none kV6 dc6 pm6 an6 cd6 ct6), sl6⟩) (c6 : W.codeIn K cd6 "is_before" = true) (k6 : W.keepIn K (.ref f6) = true)
    (a7 : W.nsIn K mainGlobals "floor_of" = some (some (.ref f7))) (l7 : K.lookup f7 = some ⟨oc7, od7, .func (W.fnOf "floor_of" "floor_of" (qV jS) (qQ jS) (qF jS) .none kV7 dc7 pm7 an7 cd7 ct7), sl7⟩) (c7 : W.codeIn K cd7 "floor_of" = true) (k7 : W.keepIn K (.ref f7) = true)
    (a8 : W.nsIn K mainGlobals "rest_of" = some (some (.ref f8))) (l8 : K.lookup f8 = some ⟨oc8, od8, .func (W.fnOf "rest_of" "rest_of" (qV jj) (qQ jj) (qF jj) .none kV8 dc8 pm8 an8 cd8 ct8), sl8⟩) (c8 : W.codeIn K cd8 "rest_of" = true) (k8 : W.keepIn K (.ref f8) = true)
    (a9 : W.nsIn K mainGlobals "moments_of" = some (some (.ref f9))) (l9 : K.lookup f9 = some ⟨oc9, od9, .func (W.fnOf "moments_of" "moments_of" (qV jG) (qQ jG) (qF jG) .none kV9 dc9 pm9 an9 cd9 ct9), sl9⟩) (c9 : W.codeIn K cd9 "moments_of" = true) (k9 : W.keepIn K (.ref f9) = true)
    (a10 : W.nsIn K mainGlobals "is_rate" = some (some (.ref f10))) (l10 : K.lookup f10 = some ⟨oc10, od10, .func (W.fnOf "is_rate" "is_rate" (qV jk) (qQ jk) (qF jk) .none kV10 dc10 pm10 an10 cd10 ct10), sl10⟩) (c10 : W.codeIn K cd10 "is_rate" = true) (k10 : W.keepIn K (.ref f10) = true)
    (a11 : W.nsIn K mainGlobals "check_rates" = some (some (.ref f11))) (l11 : K.lookup f11 = some ⟨oc11, od11, .func (W.fnOf "check_rates" "check_rates" (qV jA) (qQ jA) (qF jA) .none kV11 dc11 pm11 an11 cd11 ct11), sl11⟩) (c11 : W.codeIn K cd11 "check_rates" = true) (k11 : W.keepIn K (.ref f11) = true)
    (a12 : W.nsIn K mainGlobals "without_length" = some (some (.ref f12))) (l12 : K.lookup f12 = some ⟨oc12, od12, .func (W.fnOf "without_length" "without_length" (qV qj) (qQ qj) (qF qj) .none kV12 dc12 pm12 an12 cd12 ct12), sl12⟩) (c12 : W.codeIn K cd12 "without_length" = true) (k12 : W.keepIn K (.ref f12) = true)
    (a13 : W.nsIn K mainGlobals "row_at" = some (some (.ref f13))) (l13 : K.lookup f13 = some ⟨oc13, od13, .func (W.fnOf "row_at" "row_at" (qV j0) (qQ j0) (qF j0) .none kV13 dc13 pm13 an13 cd13 ct13), sl13⟩) (c13 : W.codeIn K cd13 "row_at" = true) (k13 : W.keepIn K (.ref f13) = true)
    (a14 : W.nsIn K mainGlobals "written" = some (some (.ref f14))) (l14 : K.lookup f14 = some ⟨oc14, od14, .func (W.fnOf "written" "written" (qV jh) (qQ jh) (qF jh) .none kV14 dc14 pm14 an14 cd14 ct14), sl14⟩) (c14 : W.codeIn K cd14 "written" = true) (k14 : W.keepIn K (.ref f14) = true)
    (a15 : W.nsIn K mainGlobals "holds_all" = some (some (.ref f15))) (l15 : K.lookup f15 = some ⟨oc15, od15, .func (W.fnOf "holds_all" "holds_all" (qV jM) (qQ jM) (qF jM) .none kV15 dc15 pm15 an15 cd15 ct15), sl15⟩) (c15 : W.codeIn K cd15 "holds_all" = true) (k15 : W.keepIn K (.ref f15) = true)
    (a16 : W.nsIn K mainGlobals "_law_cell_at" = some (some (.ref f16))) (l16 : K.lookup f16 = some ⟨oc16, od16, .func (W.fnOf "_law_cell_at" "_law_cell_at" (qV qv) (qQ qv) (qF qv) .none kV16 dc16 pm16 an16 cd16 ct16), sl16⟩) (c16 : W.codeIn K cd16 "_law_cell_at" = true) (k16 : W.keepIn K (.ref f16) = true)
    (a17 : W.nsIn K mainGlobals "_law_drawn" = some (some (.ref f17))) (l17 : K.lookup f17 = some ⟨oc17, od17, .func (W.fnOf "_law_drawn" "_law_drawn" (qV jC) (qQ jC) (qF jC) .none kV17 dc17 pm17 an17 cd17 ct17), sl17⟩) (c17 : W.codeIn K cd17 "_law_drawn" = true) (k17 : W.keepIn K (.ref f17) = true)
    (a18 : W.nsIn K mainGlobals "_law_part" = some (some (.ref f18))) (l18 : K.lookup f18 = some ⟨oc18, od18, .func (W.fnOf "_law_part" "_law_part" (qV jL) (qQ jL) (qF jL) .none kV18 dc18 pm18 an18 cd18 ct18), sl18⟩) (c18 : W.codeIn K cd18 "_law_part" = true) (k18 : W.keepIn K (.ref f18) = true)
    (a19 : W.nsIn K mainGlobals "_law_track" = some (some (.ref f19))) (l19 : K.lookup f19 = some ⟨oc19, od19, .func (W.fnOf "_law_track" "_law_track" (qV jD) (qQ jD) (qF jD) .none kV19 dc19 pm19 an19 cd19 ct19), sl19⟩) (c19 : W.codeIn K cd19 "_law_track" = true) (k19 : W.keepIn K (.ref f19) = true)
    (a20 : W.nsIn K mainGlobals "_law_rate" = some (some (.ref f20))) (l20 : K.lookup f20 = some ⟨oc20, od20, .func (W.fnOf "_law_rate" "_law_rate" (qV jJ) (qQ jJ) (qF jJ) .none kV20 dc20 pm20 an20 cd20 ct20), sl20⟩) (c20 : W.codeIn K cd20 "_law_rate" = true) (k20 : W.keepIn K (.ref f20) = true)
    (a21 : W.nsIn K mainGlobals "_law_row_right" = some (some (.ref f21))) (l21 : K.lookup f21 = some ⟨oc21, od21, .func (W.fnOf "_law_row_right" "_law_row_right" (qV qi) (qQ qi) (qF qi) .none kV21 dc21 pm21 an21 cd21 ct21), sl21⟩) (c21 : W.codeIn K cd21 "_law_row_right" = true) (k21 : W.keepIn K (.ref f21) = true)
    (a22 : W.nsIn K mainGlobals "_law_lowest" = some (some (.ref f22))) (l22 : K.lookup f22 = some ⟨oc22, od22, .func (W.fnOf "_law_lowest" "_law_lowest" (qV q9) (qQ q9) (qF q9) .none kV22 dc22 pm22 an22 cd22 ct22), sl22⟩) (c22 : W.codeIn K cd22 "_law_lowest" = true) (k22 : W.keepIn K (.ref f22) = true)
    (a23 : W.nsIn K mainGlobals "_law_refused" = some (some (.ref f23))) (l23 : K.lookup f23 = some ⟨oc23, od23, .func (W.fnOf "_law_refused" "_law_refused" (qV qt) (qQ qt) (qF qt) .none kV23 dc23 pm23 an23 cd23 ct23), sl23⟩) (c23 : W.codeIn K cd23 "_law_refused" = true) (k23 : W.keepIn K (.ref f23) = true)
    (a24 : W.nsIn K mainGlobals "law" = some (some (.ref f24))) (l24 : K.lookup f24 = some ⟨oc24, od24, .func (W.fnOf "law" "law" (qV zX) (qQ zX) (qF zX) .none kV24 dc24 pm24 an24 cd24 ct24), sl24⟩) (c24 : W.codeIn K cd24 "law" = true) (k24 : W.keepIn K (.ref f24) = true)
    (xg0 : W.nsIn K mainGlobals "CutError" = some (some (.ref C0)))
    (xg1 : W.nsIn K mainGlobals "NoNumber" = some (some (.ref C1)))
    (xg2 : W.nsIn K mainGlobals "NoList" = some (some (.ref C2)))
    (x_NoNumber : L3.OwnX K C1)
    (e_NoNumber : L3.ExcK K C1)
    (m_NoNumber : W.exmOne K (.ref C1) (.ref C1) = some true)
    (i_NL : W.kitOne K (.ref C1) (.ref C2) = some false)
    (xz0 : W.nsIn K mainGlobals "isinstance" = some none)
    (xz1 : W.nsIn K mainGlobals "int" = some none)
    (xz2 : W.nsIn K mainGlobals "bool" = some none)
    (xz3 : W.nsIn K mainGlobals "abs" = some none)
    (xz4 : W.nsIn K mainGlobals "tuple" = some none)
    (xz5 : W.nsIn K mainGlobals "len" = some none)
    (xz6 : W.nsIn K mainGlobals "all" = some none)
    (xz7 : W.nsIn K mainGlobals "range" = some none)
    (xz8 : W.nsIn K mainGlobals "list" = some none)
    (xcNOUGHT : W.nsIn K mainGlobals "NOUGHT" = some (some (.ref nNOUGHT))) (xlNOUGHT : K.lookup nNOUGHT = some ⟨.type "tuple", odNOUGHT, .seq #[.int 0 tNOUGHT_0, .int 1 tNOUGHT_1] nnNOUGHT, slNOUGHT⟩)
    (xcEND : W.nsIn K mainGlobals "END" = some (some (.ref nEND))) (xlEND : K.lookup nEND = some ⟨.type "tuple", odEND, .seq #[.str "end" tEND_0] nnEND, slEND⟩)
    : ∃ fd : FuncData, (∀ (s : Shared) (v : Value), BindsTo s fd ⟨[v], []⟩ [("_law_script", v)]) ∧ ∀ base : Heap, K.In base → base.Ns mainGlobals mg → FnOk l.prog w K mg base CX0 12 fa fd ["_law_script"] (qAf K) := by
  have e := hfa.symm.trans (W.mg_of X G a24)
  obtain rfl : f24 = fa := by cases e; rfl
  have F0 := qr (st := jU) l0 c0 k0
  have b0 := F0.binds (ps := ["x"]) fun _ _ _ _ _ _ us hl => match us, hl with | [_], _ => rfl
  have F1 := qr (st := qk) l1 c1 k1
  have b1 := F1.binds (ps := ["one", "other"]) fun _ _ _ _ _ _ us hl => match us, hl with | [_, _], _ => rfl
  have F2 := qr (st := q8) l2 c2 k2
  have b2 := F2.binds (ps := ["x"]) fun _ _ _ _ _ _ us hl => match us, hl with | [_], _ => rfl
  have F3 := qr (st := jV) l3 c3 k3
  have b3 := F3.binds (ps := ["top", "bottom"]) fun _ _ _ _ _ _ us hl => match us, hl with | [_, _], _ => rfl
  have F4 := qr (st := jT) l4 c4 k4
  have b4 := F4.binds (ps := ["one", "other"]) fun _ _ _ _ _ _ us hl => match us, hl with | [_, _], _ => rfl
  have F5 := qr (st := jW) l5 c5 k5
  have b5 := F5.binds (ps := ["one", "other"]) fun _ _ _ _ _ _ us hl => match us, hl with | [_, _], _ => rfl
  have F6 := qr (st := jK) l6 c6 k6
  have b6 := F6.binds (ps := ["one", "other"]) fun _ _ _ _ _ _ us hl => match us, hl with | [_, _], _ => rfl
  have F7 := qr (st := jS) l7 c7 k7
  have b7 := F7.binds (ps := ["one"]) fun _ _ _ _ _ _ us hl => match us, hl with | [_], _ => rfl
  have F8 := qr (st := jj) l8 c8 k8
  have b8 := F8.binds (ps := ["one"]) fun _ _ _ _ _ _ us hl => match us, hl with | [_], _ => rfl
  have F9 := qr (st := jG) l9 c9 k9
  have b9 := F9.binds (ps := ["item"]) fun _ _ _ _ _ _ us hl => match us, hl with | [_], _ => rfl
  have F10 := qr (st := jk) l10 c10 k10
  have b10 := F10.binds (ps := ["thing"]) fun _ _ _ _ _ _ us hl => match us, hl with | [_], _ => rfl
  have F11 := qr (st := jA) l11 c11 k11
  have b11 := F11.binds (ps := ["rate", "other"]) fun _ _ _ _ _ _ us hl => match us, hl with | [_, _], _ => rfl
  have F12 := qr (st := qj) l12 c12 k12
  have b12 := F12.binds (ps := ["item"]) fun _ _ _ _ _ _ us hl => match us, hl with | [_], _ => rfl
  have F13 := qr (st := j0) l13 c13 k13
  have b13 := F13.binds (ps := ["border", "by", "what"]) fun _ _ _ _ _ _ us hl => match us, hl with | [_, _, _], _ => rfl
  have F14 := qr (st := jh) l14 c14 k14
  have b14 := F14.binds (ps := ["track", "rate", "other"]) fun _ _ _ _ _ _ us hl => match us, hl with | [_, _, _], _ => rfl
  have F15 := qr (st := jM) l15 c15 k15
  have b15 := F15.binds (ps := ["track", "rate", "other"]) fun _ _ _ _ _ _ us hl => match us, hl with | [_, _, _], _ => rfl
  have F16 := qr (st := qv) l16 c16 k16
  have b16 := F16.binds (ps := ["_law_script", "_law_k"]) fun _ _ _ _ _ _ us hl => match us, hl with | [_, _], _ => rfl
  have F17 := qr (st := jC) l17 c17 k17
  have b17 := F17.binds (ps := ["_law_number", "_law_many"]) fun _ _ _ _ _ _ us hl => match us, hl with | [_, _], _ => rfl
  have F18 := qr (st := jL) l18 c18 k18
  have b18 := F18.binds (ps := ["_law_x", "_law_cell"]) fun _ _ _ _ _ _ us hl => match us, hl with | [_, _], _ => rfl
  have F19 := qr (st := jD) l19 c19 k19
  have b19 := F19.binds (ps := ["_law_cells"]) fun _ _ _ _ _ _ us hl => match us, hl with | [_], _ => rfl
  have F20 := qr (st := jJ) l20 c20 k20
  have b20 := F20.binds (ps := ["_law_x"]) fun _ _ _ _ _ _ us hl => match us, hl with | [_], _ => rfl
  have F21 := qr (st := qi) l21 c21 k21
  have b21 := F21.binds (ps := ["_law_row", "_law_border", "_law_rate_here", "_law_other", "_law_what"]) fun _ _ _ _ _ _ us hl => match us, hl with | [_, _, _, _, _], _ => rfl
  have F22 := qr (st := q9) l22 c22 k22
  have b22 := F22.binds (ps := ["_law_one"]) fun _ _ _ _ _ _ us hl => match us, hl with | [_], _ => rfl
  have F23 := qr (st := qt) l23 c23 k23
  have b23 := F23.binds (ps := ["_law_track_here", "_law_rate_here", "_law_other", "_law_kind"]) fun _ _ _ _ _ _ us hl => match us, hl with | [_, _, _, _], _ => rfl
  have F24 := qr (st := zX) l24 c24 k24
  have b24 := F24.binds (ps := ["_law_script"]) fun _ _ _ _ _ _ us hl => match us, hl with | [_], _ => rfl
  have T : Tx K mg ⟨f0, _, f1, _, f2, _, f3, _, f4, _, f5, _, f6, _, f7, _, f8, _, f9, _, f10, _, f11, _, f12, _, f13, _, f14, _, f15, _, f16, _, f17, _, f18, _, f19, _, f20, _, f21, _, f22, _, f23, _, f24, _, C0, C1, C2, nNOUGHT, nEND⟩ := ⟨⟨F0, b0, W.mg_of X G a0⟩, ⟨F1, b1, W.mg_of X G a1⟩, ⟨F2, b2, W.mg_of X G a2⟩, ⟨F3, b3, W.mg_of X G a3⟩, ⟨F4, b4, W.mg_of X G a4⟩, ⟨F5, b5, W.mg_of X G a5⟩, ⟨F6, b6, W.mg_of X G a6⟩, ⟨F7, b7, W.mg_of X G a7⟩, ⟨F8, b8, W.mg_of X G a8⟩, ⟨F9, b9, W.mg_of X G a9⟩, ⟨F10, b10, W.mg_of X G a10⟩, ⟨F11, b11, W.mg_of X G a11⟩, ⟨F12, b12, W.mg_of X G a12⟩, ⟨F13, b13, W.mg_of X G a13⟩, ⟨F14, b14, W.mg_of X G a14⟩, ⟨F15, b15, W.mg_of X G a15⟩, ⟨F16, b16, W.mg_of X G a16⟩, ⟨F17, b17, W.mg_of X G a17⟩, ⟨F18, b18, W.mg_of X G a18⟩, ⟨F19, b19, W.mg_of X G a19⟩, ⟨F20, b20, W.mg_of X G a20⟩, ⟨F21, b21, W.mg_of X G a21⟩, ⟨F22, b22, W.mg_of X G a22⟩, ⟨F23, b23, W.mg_of X G a23⟩, ⟨F24, b24, W.mg_of X G a24⟩, W.mg_of X G xg0, W.mg_of X G xg1, W.mg_of X G xg2, W.mg_none_of X G xz0, W.mg_none_of X G xz1, W.mg_none_of X G xz2, W.mg_none_of X G xz3, W.mg_none_of X G xz4, W.mg_none_of X G xz5, W.mg_none_of X G xz6, W.mg_none_of X G xz7, W.mg_none_of X G xz8, W.mg_of X G xcNOUGHT, fun H => .inr ⟨_, _, _, xlNOUGHT, rfl, rfl, by show 2 ≤ sizeLine; decide, .cons ⟨_, rfl⟩ (.cons ⟨_, rfl⟩ (.nil))⟩, W.mg_of X G xcEND, fun H => .inr ⟨_, _, _, xlEND, rfl, rfl, by show 1 ≤ sizeLine; decide, .cons ⟨_, rfl⟩ (.nil)⟩, x_NoNumber, e_NoNumber, m_NoNumber, i_NL⟩
  exact ⟨W.fnOf "law" "law" (qV zX) (qQ zX) (qF zX) .none kV24 dc24 pm24 an24 cd24 ct24, fun s v => .of_eq rfl, fun base _ _ => qBs T⟩
theorem walk {l : W.OpenLaw} {q : Program} {loose : List Str} {XP : (Str → Option Value) → Heap → Prop} {YP : World → Heap → Prop} {d : DefRec} {K : Params → W.Frag} (hn : l.most = some 63) (hdf : d.params.defaults = [])
    (hY : ∀ (w : World) (h : Heap), YP w h → (K w.params).In h)
    (F : ∀ (w : World) (mg : Str → Option Value) (fa : Addr) (h : Heap), (K w.params).In h → h.Ns mainGlobals mg → mg d.name = some (.ref fa) →
      ∃ fd : FuncData, (∀ (s : Shared) (u : Value), BindsTo s fd ⟨[u], []⟩ [("_law_script", u)]) ∧ ∀ base : Heap, (K w.params).In base → base.Ns mainGlobals mg → FnOk l.prog w (K w.params) mg base CX0 12 fa fd ["_law_script"] (qAf (K w.params))) :
    W.WalkO q loose XP YP l.row.toRowW d [] (fun f vs => PySem.call f vs) :=
  L2.walk_of (n := 63) (k := 12) (x := "_law_script") (CX := fun _ => CX0) (sp := fun w => qAf (K w.params)) hn (by decide) hdf ⟨rfl, by decide, by decide⟩ hY F (fun _ _ a ns hl _ hS => ⟨a, ns, rfl, hS, hl, fun _ => rfl⟩) fun _ _ _ _ _ z => z
end Lw
namespace PySem.W.Fast
def tw13836652321877081667 := ()
def tw4145658021353697477 := ()
def tw6982256461824793253 := ()
def tw12630860895460711656 := ()
def tw17367351509066751689 := ()
def tw6388322518263343018 := ()
def tw2220774108447262698 := ()
def tw16194148166475083211 := ()
def tw13063144638456903662 := ()
def tw7477609352044757743 := ()
def tw5575929048985914064 := ()
def tw3709234672820160659 := ()
def tw15178290133869143700 := ()
def tw8694876927257434329 := ()
def tw12418924927520180891 := ()
def tw4282571297686386226 := ()
def tw17342675507188013090 := ()
def tw4221904403476090720 := ()
def tw16689057703555451020 := ()
def tw6278578046590101985 := ()
def tw4498287840724080399 := ()
def tw2606213010388110855 := ()
def tw7009923807959341151 := ()
def tw1548131402540214942 := ()
def tw9430949276126416126 := ()
def tw17589388585920176693 := ()
def tw5639961835426006010 := ()
def tw2897002886900288937 := ()
def tw8408291146088179248 := ()
def tw4335397015275017092 := ()
def tw5143855869002387925 := ()
def tw3531655238193480287 := ()
end PySem.W.Fast
open PySem PySem.W PyProof.Rows
set_option maxRecDepth 100000 in
set_option maxHeartbeats 0 in
theorem PySem.Challenge.cw_reelcut_k81_lists_written_holds : PySem.Challenge.rw_reelcut_k81_lists_written.Holds := by
  w_on; o_law; k_head; (case hw => w_witness2)
  k_fill
  refine Lw.walk (l := PySem.Challenge.rw_reelcut_k81_lists_written) rfl rfl (fun w h Y => PySem.W.kIn_of Y) ?F
  case F =>
    intro w mg fa h KX G hmg
    refine' Lw.all_mk KX G hmg ?a0 ?l0 ?c0 ?k0 ?a1 ?l1 ?c1 ?k1 ?a2 ?l2 ?c2 ?k2 ?a3 ?l3 ?c3 ?k3 ?a4 ?l4 ?c4 ?k4 ?a5 ?l5 ?c5 ?k5 ?a6 ?l6 ?c6 ?k6 ?a7 ?l7 ?c7 ?k7 ?a8 ?l8 ?c8 ?k8 ?a9 ?l9 ?c9 ?k9 ?a10 ?l10 ?c10 ?k10 ?a11 ?l11 ?c11 ?k11 ?a12 ?l12 ?c12 ?k12 ?a13 ?l13 ?c13 ?k13 ?a14 ?l14 ?c14 ?k14 ?a15 ?l15 ?c15 ?k15 ?a16 ?l16 ?c16 ?k16 ?a17 ?l17 ?c17 ?k17 ?a18 ?l18 ?c18 ?k18 ?a19 ?l19 ?c19 ?k19 ?a20 ?l20 ?c20 ?k20 ?a21 ?l21 ?c21 ?k21 ?a22 ?l22 ?c22 ?k22 ?a23 ?l23 ?c23 ?k23 ?a24 ?l24 ?c24 ?k24 ?xg0 ?xg1 ?xg2 ?x_NoNumber ?e_NoNumber ?m_NoNumber ?i_NL ?xz0 ?xz1 ?xz2 ?xz3 ?xz4 ?xz5 ?xz6 ?xz7 ?xz8 ?xcNOUGHT ?xlNOUGHT ?xcEND ?xlEND
    (case a0 | l0 | c0 | k0 | a1 | l1 | c1 | k1 | a2 | l2 | c2 | k2 | a3 | l3 | c3 | k3 | a4 | l4 | c4 | k4 | a5 | l5 | c5 | k5 | a6 | l6 | c6 | k6 | a7 | l7 | c7 | k7 | a8 | l8 | c8 | k8 | a9 | l9 | c9 | k9 | a10 | l10 | c10 | k10 | a11 | l11 | c11 | k11 | a12 | l12 | c12 | k12 | a13 | l13 | c13 | k13 | a14 | l14 | c14 | k14 | a15 | l15 | c15 | k15 | a16 | l16 | c16 | k16 | a17 | l17 | c17 | k17 | a18 | l18 | c18 | k18 | a19 | l19 | c19 | k19 | a20 | l20 | c20 | k20 | a21 | l21 | c21 | k21 | a22 | l22 | c22 | k22 | a23 | l23 | c23 | k23 | a24 | l24 | c24 | k24 | xg0 | xg1 | xg2 => k_is)
    (case x_NoNumber => (unfold L3.OwnX; kernel_rfl))
    (case e_NoNumber => exact ⟨by k_is, by k_is, by k_is, by k_is, by k_is, by k_is, by k_is⟩)
    (case m_NoNumber => kernel_rfl)
    (case i_NL => kernel_rfl)
    (case xz0 | xz1 | xz2 | xz3 | xz4 | xz5 | xz6 | xz7 | xz8 | xcNOUGHT | xlNOUGHT | xcEND | xlEND => k_is)

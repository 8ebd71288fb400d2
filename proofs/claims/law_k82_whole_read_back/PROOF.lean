import PyProof.Rows.All
import Wide.All
import OpenK.AllK
import Wide.FinOn
import Lean
import PyProof.EqAt
import PyProof.EqKinds
import PyProof.TupleCall
import PySem.Challenge.RW_reelcut_k82_whole_read_back
set_option Elab.async false
set_option linter.all false
set_option maxRecDepth 100000
namespace L2
open PySem PySem.Spec PyProof.Rows
abbrev Key := Sum Int Str
def qE2 : Key → Value → Bool
  | .inl k, v => Value.isInt k v
  | .inr x, v => Value.isStrOf x v
def qHp (w : World) : Key → Int
  | .inl k => hashInt k
  | .inr x => hashStr w x
theorem jJ : ∀ {k : Key} {v : Value}, qE2 k v = true → (∃ i t, k = Sum.inl i ∧ v = Value.int i t) ∨ (∃ x t, k = Sum.inr x ∧ v = Value.str x t)
  | .inl i, v, h => by
    obtain ⟨t, e⟩ := Value.isInt_shape (k := i) (v := v) h
    exact .inl ⟨i, t, rfl, e⟩
  | .inr x, v, h => by
    obtain ⟨t, e⟩ := Value.isStrOf_shape (x := x) (v := v) h
    exact .inr ⟨x, t, rfl, e⟩
theorem qFb (a b : Int) : decide ((Sum.inl a : Key) = Sum.inl b) = (a == b) := by
  by_cases e : a = b
  · subst e; simp
  · have h : ¬ (Sum.inl a : Key) = Sum.inl b := fun q => e (Sum.inl.inj q)
    rw [decide_eq_false h]
    exact (beq_eq_false_iff_ne.mpr e).symm
theorem qE7 (a b : Str) : decide ((Sum.inr a : Key) = Sum.inr b) = decide (a = b) := by
  by_cases e : a = b
  · subst e; simp
  · have h : ¬ (Sum.inr a : Key) = Sum.inr b := fun q => e (Sum.inr.inj q)
    rw [decide_eq_false h, decide_eq_false e]
theorem qFw (a : Int) (b : Str) : decide ((Sum.inl a : Key) = Sum.inr b) = false := decide_eq_false (fun q => nomatch q)
theorem qE6 (a : Str) (b : Int) : decide ((Sum.inr a : Key) = Sum.inl b) = false := decide_eq_false (fun q => nomatch q)
def wf (prog : Program) (w : World) : PySem.KeyKind prog w Key where
  is := qE2
  hash := qHp w
  inj := fun v a b ha hb => by
    rcases jJ ha with ⟨i, t, rfl, rfl⟩ | ⟨x, t, rfl, rfl⟩
    · rcases jJ hb with ⟨j, u, rfl, e⟩ | ⟨y, u, rfl, e⟩
      · injection e with e1 _; rw [e1]
      · exact nomatch e
    · rcases jJ hb with ⟨j, u, rfl, e⟩ | ⟨y, u, rfl, e⟩
      · exact nomatch e
      · injection e with e1 _; rw [e1]
  byValue := fun k v h => by
    rcases jJ h with ⟨i, t, rfl, rfl⟩ | ⟨x, t, rfl, rfl⟩ <;> rfl
  pyHash := fun hv h => by
    rcases jJ hv with ⟨i, t, rfl, rfl⟩ | ⟨x, t, rfl, rfl⟩
    · exact wpAny_pyHash_int h
    · exact wpAny_pyHash_str h
  eqBool := fun hu hv h => by
    rcases jJ hu with ⟨i, t, rfl, rfl⟩ | ⟨x, t, rfl, rfl⟩
    · rcases jJ hv with ⟨j, u, rfl, rfl⟩ | ⟨y, u, rfl, rfl⟩
      · rw [qFb] at h; exact wpAny_eqBool_int h
      · rw [qFw] at h; exact SeqAt.EqAt.int_str i t y u _ _ _ _ h
    · rcases jJ hv with ⟨j, u, rfl, rfl⟩ | ⟨y, u, rfl, rfl⟩
      · rw [qE6] at h; exact SeqAt.EqAt.str_int x t j u _ _ _ _ h
      · rw [qE7] at h; exact wpAny_eqBool_str h
  «strs» := fun k x t v h => by
    rcases jJ h with ⟨i, u, rfl, e⟩ | ⟨y, u, rfl, e⟩
    · exact nomatch e
    · injection e with e1 _
      subst e1
      cases v <;> rfl
end L2
namespace L2
open PySem PySem.Spec PyProof.Rows
inductive V where
  | non | bl (b : Bool) | int (i : Int) | str (x : Str) | byt (b : Array UInt8) | flt (b : UInt64) | ref (a : Addr) | ty (n : String)
  deriving DecidableEq
def RelV : V → Value → Prop
  | .non, u => u = Value.none
  | .bl b, u => u = Value.bool b
  | .int i, u => ∃ t, u = Value.int i t
  | .str x, u => ∃ t, u = Value.str x t
  | .byt b, u => ∃ t, u = Value.bytes b t
  | .flt b, u => ∃ t, u = Value.float b t
  | .ref a, u => u = Value.ref a
  | .ty n, u => u = Value.type n
abbrev Vals : List V → List Value → Prop := Paired RelV
theorem Vals.length {xs : List V} {us : List Value} (r : Vals xs us) : xs.length = us.length := Paired.length r
theorem Vals.get : ∀ {xs : List V} {us : List Value} {i : Nat} {x : V}, Vals xs us → xs[i]? = some x → ∃ u, us[i]? = some u ∧ RelV x u
  | _, _, _, _, .nil, e => by simp at e
  | _, _, 0, _, .cons r _, e => by simp at e; subst e; exact ⟨_, rfl, r⟩
  | _, _, i + 1, x, .cons _ t, e => by
    obtain ⟨u, h1, h2⟩ := Vals.get (i := i) (x := x) t (by simpa using e)
    exact ⟨u, by simpa using h1, h2⟩
theorem Vals.set {x : V} {u : Value} (r : RelV x u) : ∀ {xs : List V} {us : List Value} (i : Nat), Vals xs us → Vals (xs.set i x) (us.set i u)
  | _, _, _, .nil => .nil
  | _, _, 0, .cons _ t => .cons r t
  | _, _, i + 1, .cons q t => .cons q (Vals.set r i t)
theorem Vals.append : ∀ {xs ys : List V} {us ws : List Value}, Vals xs us → Vals ys ws → Vals (xs ++ ys) (us ++ ws)
  | _, _, _, _, .nil, s => s
  | _, _, _, _, .cons r t, s => .cons r (Vals.append t s)
theorem Vals.take : ∀ {xs : List V} {us : List Value} (n : Nat), Vals xs us → Vals (xs.take n) (us.take n)
  | _, _, 0, _ => .nil
  | _, _, _ + 1, .nil => .nil
  | _, _, n + 1, .cons r t => .cons r (Vals.take n t)
theorem Vals.drop : ∀ {xs : List V} {us : List Value} (n : Nat), Vals xs us → Vals (xs.drop n) (us.drop n)
  | _, _, 0, r => r
  | _, _, _ + 1, .nil => .nil
  | _, _, n + 1, .cons _ t => Vals.drop n t
def RelO : Option V → Option Value → Prop
  | some v, some u => RelV v u
  | none, none => True
  | _, _ => False
def KV {κ : Type} : List (κ × V) → List (κ × Value) → Prop := Paired fun (p : κ × V) (q : κ × Value) => p.1 = q.1 ∧ RelV p.2 q.2
def kV : Key → V
  | .inl i => .int i
  | .inr x => .str x
inductive HO where
  | lst (xs : List V)
  | tup (xs : List V)
  | dK (kvs : List (Key × V)) | dT (kvs : List (List Key × V))
  | set (S : Int → Bool) (n : Nat)
  | ins (C dx : Addr) (fs : List (Str × V))
  | own (x : Addr)
  | xd (fs : List (Str × V))
  | met (f x : Addr)
  | rng (lo hi : Int)
  | frz (o : Obj) (u : HO)
  | tbl (ps : Array Value)
  | ext (φ : Heap → Prop)
abbrev Hp := Addr → Option HO
def upd (H : Hp) (a : Addr) (o : HO) : Hp := fun b => if b = a then some o else H b
theorem qC {H : Hp} {a : Addr} {o : HO} : upd H a o a = some o := by unfold upd; rw [if_pos rfl]
theorem qW {H : Hp} {a b : Addr} {o : HO} (h : b ≠ a) : upd H a o b = H b := by unfold upd; rw [if_neg h]
theorem wo {H : Hp} {a : Addr} {o u : HO} : upd (upd H a o) a u = upd H a u := by
  funext b; unfold upd; split <;> rfl
theorem qGj {H : Hp} {a b : Addr} {o u : HO} (h : H a = some o) (h' : H b = some u) (d : o ≠ u) : a ≠ b := by
  intro e; subst e; rw [h] at h'; exact d (Option.some.inj h')
theorem qL {H : Hp} {a b : Addr} {o : HO} (h : H a = some o) (h' : H b = none) : a ≠ b := by
  intro e; subst e; rw [h] at h'; cases h'
section
variable (P : Program) (w : World)
def ObjOk (H : Hp) (h : Heap) (a : Addr) : HO → Prop
  | .lst xs => xs.length ≤ sizeLine ∧ ∃ (its : List Value) (n : Nat), Vals xs its ∧ h.get? a = some { cls := .type "list", data := .seq its.toArray n }
  | .tup xs => xs.length ≤ sizeLine ∧ ∃ its : List Value, Vals xs its ∧ IsTup h a its.toArray
  | .dK kvs => kvs.length ≤ sizeLine ∧ (a == sysModules) = false ∧ ∃ vs, KV kvs vs ∧ h.DictOf (wf P w) a vs
  | .dT kvs => kvs.length ≤ sizeLine ∧ (a == sysModules) = false ∧ ∃ xs : List (List Key × Addr × Value),
      Paired (fun (p : List Key × V) (q : List Key × Addr × Value) => p.1 = q.1 ∧ H q.2.1 = some (.tup (p.1.map kV)) ∧ RelV p.2 q.2.2) kvs xs ∧
      ∃ o es ep, h.get? a = some o ∧ o.ExactDict ∧ o.data = .dict es ep ∧ es.toList = xs.map (entryOfKey (tupleKind (wf P w))) ∧ (xs.map (·.1)).Nodup
  | .set S n => h.SetOf (intKind P w) a S n
  | .ins C dx fs => H dx = some (.own a) ∧ fs.length ≤ 1000 ∧ dx ≠ a ∧ h.get? a = some (PySem.W.instObj C dx) ∧
      ∃ mA, h.Ns1 dx mA ∧ (∀ f, RelO (fs.lookup f) (mA f)) ∧ PySem.Within mA (fs.map (·.1))
  | .own _ => ∃ o, h.get? a = some o
  | .xd fs => ∃ mA, h.Ns1 a mA ∧ ∀ f, RelO (fs.lookup f) (mA f)
  | .rng lo hi => ∃ t u v, h.get? a = some { cls := .type "range", data := .fields #[.int lo t, .int hi u, .int 1 v] }
  | .frz o u => h.get? a = some o ∧ ObjOk H h a u
  | .tbl ps => h.get? a = some { cls := .none, data := .fields ps }
  | .met f x => h.get? a = some (PySem.W.methodObj (.ref f) (.ref x))
  | .ext φ => φ h ∧ (∃ o, h.get? a = some o) ∧ ∀ h1 h2 : Heap, φ h1 → (∀ o, h1.get? a = some o → h2.get? a = some o) → φ h2
def HOk (H : Hp) (h : Heap) : Prop := ∀ a o, H a = some o → ObjOk P w H h a o
end
section
variable {P : Program} {w : World} {H H' : Hp} {h h' : Heap} {a : Addr} {o : HO}
theorem ObjOk.lt (x : ObjOk P w H h a o) : a < h.objs.size := by
  cases o with
  | lst xs => obtain ⟨_, _, _, _, e⟩ := x; exact Heap.lt_size e
  | tup xs => obtain ⟨_, _, _, p⟩ := x; exact p.lt
  | dK kvs => obtain ⟨_, _, _, _, o, _, _, e, _⟩ := x; exact Heap.lt_size e
  | dT kvs => obtain ⟨_, _, _, _, o, _, _, e, _⟩ := x; exact Heap.lt_size e
  | set S n => obtain ⟨o, _, _, _, e, _⟩ := x; exact Heap.lt_size e
  | ins C dx fs => obtain ⟨_, _, _, e, _⟩ := x; exact Heap.lt_size e
  | own y => obtain ⟨_, e⟩ := x; exact Heap.lt_size e
  | xd fs => obtain ⟨_, ⟨_, _, _, e, _⟩, _⟩ := x; exact Heap.lt_size e
  | rng lo hi => obtain ⟨_, _, _, e⟩ := x; exact Heap.lt_size e
  | frz ob u => obtain ⟨e, _⟩ := x; exact Heap.lt_size e
  | tbl ps => exact Heap.lt_size (show h.get? a = some _ from x)
  | met f y => exact Heap.lt_size (show h.get? a = some _ from x)
  | ext φ => obtain ⟨_, ⟨_, e⟩, _⟩ := x; exact Heap.lt_size e
theorem Paired.mapP {α β : Type} {F G : α → β → Prop} : ∀ {l₁ : List α} {l₂ : List β}, Paired F l₁ l₂ → (∀ a b, F a b → G a b) → Paired G l₁ l₂
  | _, _, .nil, _ => .nil
  | _, _, .cons r t, f => .cons (f _ _ r) (Paired.mapP t f)
theorem ObjOk.stay (x : ObjOk P w H h a o) (k : ∀ b u, (b = a ∨ H b = some (.own a)) → h.get? b = some u → h'.get? b = some u)
    (ho : ∀ b, H b = some (.own a) → H' b = some (.own a)) (ht : ∀ b xs, H b = some (.tup xs) → H' b = some (.tup xs)) : ObjOk P w H' h' a o := by
  induction o with
  | lst xs => obtain ⟨z, its, n, r, e⟩ := x; exact ⟨z, its, n, r, k _ _ (.inl rfl) e⟩
  | tup xs => obtain ⟨z, its, r, ob, e, c⟩ := x; exact ⟨z, its, r, ob, k _ _ (.inl rfl) e, c⟩
  | dK kvs => obtain ⟨z, y, vs, r, ob, es, ep, e, c⟩ := x; exact ⟨z, y, vs, r, ob, es, ep, k _ _ (.inl rfl) e, c⟩
  | dT kvs =>
    obtain ⟨z, y, xs, r, ob, es, ep, e, c⟩ := x
    exact ⟨z, y, xs, Paired.mapP r fun p q z => ⟨z.1, ht _ _ z.2.1, z.2.2⟩, ob, es, ep, k _ _ (.inl rfl) e, c⟩
  | set S n => obtain ⟨ob, es, ep, t, e, c⟩ := x; exact ⟨ob, es, ep, t, k _ _ (.inl rfl) e, c⟩
  | ins C dx fs =>
    obtain ⟨d, z, ne, e, mA, ⟨od, es, ep, e2, c⟩, r⟩ := x
    exact ⟨ho _ d, z, ne, k _ _ (.inl rfl) e, mA, ⟨od, es, ep, k _ _ (.inr d) e2, c⟩, r⟩
  | own y => obtain ⟨ob, e⟩ := x; exact ⟨ob, k _ _ (.inl rfl) e⟩
  | xd fs => obtain ⟨mA, ⟨od, es, ep, e, c⟩, r⟩ := x; exact ⟨mA, ⟨od, es, ep, k _ _ (.inl rfl) e, c⟩, r⟩
  | rng lo hi => obtain ⟨t, u, v, e⟩ := x; exact ⟨t, u, v, k _ _ (.inl rfl) e⟩
  | frz ob u ih => obtain ⟨e, q⟩ := x; exact ⟨k _ _ (.inl rfl) e, ih q⟩
  | tbl ps =>
    have e : h.get? a = some { cls := .none, data := .fields ps } := x
    show h'.get? a = some { cls := .none, data := .fields ps }
    exact k a _ (.inl rfl) e
  | met f y =>
    have e : h.get? a = some (PySem.W.methodObj (.ref f) (.ref y)) := x
    show h'.get? a = some (PySem.W.methodObj (.ref f) (.ref y))
    exact k a _ (.inl rfl) e
  | ext φ => obtain ⟨p, ⟨o, e⟩, st⟩ := x; exact ⟨st _ _ p fun o q => k _ _ (.inl rfl) q, ⟨o, k _ _ (.inl rfl) e⟩, st⟩
theorem HOk.lt (x : HOk P w H h) (e : H a = some o) : a < h.objs.size := (x a o e).lt
theorem HOk.fresh (x : HOk P w H h) (e : h.objs.size ≤ a) : H a = none := by
  cases q : H a with
  | none => rfl
  | some u => exact absurd (Nat.lt_of_lt_of_le (x.lt q) e) (Nat.lt_irrefl _)
theorem HOk.kept (x : HOk P w H h) (k : ∀ b u, h.get? b = some u → h'.get? b = some u) : HOk P w H h' := fun a o e =>
  (x a o e).stay (fun b u _ q => k b u q) (fun _ q => q) fun _ _ q => q
theorem HOk.laid (x : HOk P w H h) (k : ∀ b u, h.get? b = some u → h'.get? b = some u) (hp : h.objs.size ≤ a) (new : ObjOk P w (upd H a o) h' a o) : HOk P w (upd H a o) h' := fun b u e => by
  have hn := x.fresh hp
  by_cases hb : b = a
  · subst hb; rw [qC] at e; cases e; exact new
  · rw [qW hb] at e
    exact (x b u e).stay (fun c v _ q => k c v q) (fun c q => by rw [qW (qL q hn)]; exact q) fun c xs q => by rw [qW (qL q hn)]; exact q
end
def Rd (H : Hp) (a : Addr) (u : HO) : Prop := H a = some u ∨ ∃ o, H a = some (.frz o u)
theorem Rd.of {H : Hp} {a : Addr} {u : HO} (h : H a = some u) : Rd H a u := .inl h
theorem Rd.ok {P : Program} {w : World} {H : Hp} {h : Heap} {a : Addr} {u : HO} (r : Rd H a u) (x : HOk P w H h) : ObjOk P w H h a u := by
  rcases r with r | ⟨o, r⟩
  · exact x a u r
  · obtain ⟨_, q⟩ := x a _ r
    exact q
def Mut : Option HO → Prop
  | some (.lst _) => True
  | some (.dK _) => True
  | some (.dT _) => True
  | some (.set _ _) => True
  | some (.ins _ _ _) => True
  | some (.ext _) => True
  | _ => False
section
variable {P : Program} {w : World} {H : Hp} {h h' : Heap} {x e : Addr} {o' : HO}
theorem HOk.write (ok : HOk P w H h) (mu : Mut (H x)) (he : e = x ∨ H e = some (.own x)) (k : ∀ b u, b ≠ e → h.get? b = some u → h'.get? b = some u) (heo : ∃ u, h'.get? e = some u)
    (new : ObjOk P w (upd H x o') h' x o') : HOk P w (upd H x o') h' := fun b u q => by
  have nown : ∀ c y, H c = some (.own y) → c ≠ x := fun c y r z => by subst z; rw [r] at mu; exact mu
  have ntup : ∀ c xs, H c = some (.tup xs) → c ≠ x := fun c xs r z => by subst z; rw [r] at mu; exact mu
  by_cases hb : b = x
  · subst hb; rw [qC] at q; cases q; exact new
  · rw [qW hb] at q
    by_cases hbe : b = e
    · have q' : H b = some (.own x) := by
        rcases he with z | z
        · exact absurd (hbe.trans z) hb
        · rw [hbe]; exact z
      rw [q] at q'; cases q'
      obtain ⟨v, hv⟩ := heo
      exact ⟨v, by rw [hbe]; exact hv⟩
    · refine (ok b u q).stay (fun c v hc r => k c v ?_ r) (fun c r => by rw [qW (nown c b r)]; exact r) fun c xs r => by rw [qW (ntup c xs r)]; exact r
      rcases hc with rfl | hc
      · exact hbe
      · rintro rfl
        rcases he with z | z
        · exact nown c b hc z
        · rw [hc] at z; cases z; exact hb rfl
end
structure Un (fs ex : List Addr) (H H' : Hp) (h h' : Heap) : Prop where
  keep : ∀ b o, h.get? b = some o → H b = none → b ∉ fs → b ∉ ex → h'.get? b = some o
  slot : ∀ b o, h.get? b = some o → H b = none → b ∈ fs → b ∉ ex → ∃ sl, h'.get? b = some { o with slots := sl }
  free : ∀ b o, h.get? b = some o → H b = none → b ∉ ex → H' b = none
  there : ∀ b o, h.get? b = some o → b ∉ ex → ∃ o', h'.get? b = some o'
  tups : ∀ b xs, H b = some (.tup xs) → H' b = some (.tup xs)
  frzs : ∀ b o u, H b = some (.frz o u) → H' b = some (.frz o u)
  tbls : ∀ b ps, H b = some (.tbl ps) → ∃ more, H' b = some (.tbl (ps ++ more))
section
variable {fs fs' ex ex' : List Addr} {H H1 H2 : Hp} {h h1 h2 h' : Heap} {a x e : Addr} {o : HO}
theorem Un.any (u : Un fs ex H H1 h h1) {b : Addr} {ob : Obj} (q : h.get? b = some ob) (n : H b = none) (hx : b ∉ ex) : ∃ sl, h1.get? b = some { ob with slots := sl } := by
  by_cases hb : b ∈ fs
  · exact u.slot b ob q n hb hx
  · exact ⟨ob.slots, u.keep b ob q n hb hx⟩
theorem Un.trans (a : Un fs ex H H1 h h1) (b : Un fs ex H1 H2 h1 h2) : Un fs ex H H2 h h2 where
  keep := fun c ob q n hc hx => b.keep c ob (a.keep c ob q n hc hx) (a.free c ob q n hx) hc hx
  slot := fun c ob q n hc hx => by
    obtain ⟨sl, e1⟩ := a.slot c ob q n hc hx
    obtain ⟨sl', e2⟩ := b.slot c _ e1 (a.free c ob q n hx) hc hx
    exact ⟨sl', e2⟩
  free := fun c ob q n hx => by
    obtain ⟨o', e1⟩ := a.there c ob q hx
    exact b.free c o' e1 (a.free c ob q n hx) hx
  there := fun c ob q hx => by
    obtain ⟨o', e1⟩ := a.there c ob q hx
    exact b.there c o' e1 hx
  tups := fun c xs q => b.tups c xs (a.tups c xs q)
  frzs := fun c ob xs q => b.frzs c ob xs (a.frzs c ob xs q)
  tbls := fun c ps q => by
    obtain ⟨m1, e1⟩ := a.tbls c ps q
    obtain ⟨m2, e2⟩ := b.tbls c _ e1
    exact ⟨m1 ++ m2, by rw [e2, Array.append_assoc]⟩
theorem Un.kept (k : ∀ b u, h.get? b = some u → h'.get? b = some u) : Un fs ex H H h h' :=
  ⟨fun b ob q _ _ _ => k b ob q, fun b ob q _ _ _ => ⟨ob.slots, k b ob q⟩, fun _ _ _ n _ => n, fun b ob q _ => ⟨ob, k b ob q⟩, fun _ _ q => q, fun _ _ _ q => q, fun _ ps q => ⟨#[], by rw [q]; simp⟩⟩
theorem Un.refl : Un fs ex H H h h := Un.kept fun _ _ q => q
theorem Un.laid (k : ∀ b u, h.get? b = some u → h'.get? b = some u) (hp : h.objs.size ≤ a) (hn : H a = none) : Un fs ex H (upd H a o) h h' where
  keep := fun b u q _ _ _ => k b u q
  slot := fun b u q _ _ _ => ⟨u.slots, k b u q⟩
  free := fun b u q n _ => by rw [qW (Nat.ne_of_lt (Nat.lt_of_lt_of_le (Heap.lt_size q) hp))]; exact n
  there := fun b u q _ => ⟨u, k b u q⟩
  tups := fun b xs q => by rw [qW (qL q hn)]; exact q
  frzs := fun b u xs q => by rw [qW (qL q hn)]; exact q
  tbls := fun b ps q => ⟨#[], by rw [qW (qL q hn), q]; simp⟩
theorem Un.write (mu : Mut (H x)) (he : e = x ∨ H e = some (.own x)) (k : ∀ b u, b ≠ e → h.get? b = some u → h'.get? b = some u) (heo : ∃ u, h'.get? e = some u) : Un fs ex H (upd H x o) h h' := by
  have hx : ∀ b, H b = none → b ≠ x := fun b n z => by subst z; rw [n] at mu; exact mu
  have hb : ∀ b, H b = none → b ≠ e := fun b n z => by
    subst z
    rcases he with r | r
    · exact hx b n r
    · rw [n] at r; cases r
  have hm : ∀ b u, H b = some u → ¬ Mut (some u) → b ≠ x := fun b u q nm z => by subst z; rw [q] at mu; exact nm mu
  refine ⟨fun b u q n _ _ => k b u (hb b n) q, fun b u q n _ _ => ⟨u.slots, k b u (hb b n) q⟩, fun b u q n _ => by rw [qW (hx b n)]; exact n, fun b u q _ => ?_,
    fun b xs q => by rw [qW (hm b _ q fun z => z)]; exact q, fun b u xs q => by rw [qW (hm b _ q fun z => z)]; exact q, fun b ps q => ⟨#[], by rw [qW (hm b _ q fun z => z), q]; simp⟩⟩
  by_cases hbe : b = e
  · subst hbe; exact heo
  · exact ⟨u, k b u hbe q⟩
theorem Un.mono (u : Un fs ex H H1 h h1) (hs : ∀ b ∈ fs, b ∈ fs') (hx : ∀ b ∈ ex, b ∈ ex') : Un fs' ex' H H1 h h1 :=
  ⟨fun b ob q n hb he => u.keep b ob q n (fun z => hb (hs b z)) fun z => he (hx b z), fun _ _ q n _ he => u.any q n fun z => he (hx _ z), fun b ob q n he => u.free b ob q n fun z => he (hx b z), fun b ob q he => u.there b ob q fun z => he (hx b z), u.tups, u.frzs, u.tbls⟩
end
def trk (h : Heap) (H : Hp) : List Addr := (List.range h.objs.size).filter fun a => (H a).isSome
def qDn (h : Heap) (H : Hp) : Heap := PySem.W.hideAll h (trk h H)
theorem qBy (h : Heap) (H : Hp) : (qDn h H).objs.size = h.objs.size := PySem.W.hideAll_size _ _
theorem qC5 {h : Heap} {H : Hp} {b : Addr} {o : Obj} (e : h.get? b = some o) (n : H b = none) : (qDn h H).get? b = some o :=
  PySem.W.hideAll_get _ e fun hm => by
    have q : (H b).isSome = true := (List.mem_filter.mp hm).2
    rw [n] at q; simp at q
theorem qEo {h : Heap} {H : Hp} {b : Addr} {o : Obj} (e : (qDn h H).get? b = some o) : h.get? b = some o ∧ H b = none := by
  have e' : h.get? b = some o := PySem.W.of_hideAll (trk h H) e
  refine ⟨e', ?_⟩
  cases q : H b with
  | none => rfl
  | some x =>
    have hm : b ∈ trk h H := List.mem_filter.mpr ⟨List.mem_range.mpr (Heap.lt_size e'), by simp [q]⟩
    have z : (qDn h H).get? b = none := PySem.W.hideAll_none (trk h H) hm
    rw [z] at e; cases e
def qEv (g h : Heap) (L : Addr) : List (Addr × Obj) := (List.range h.objs.size).filterMap fun a => if a = L ∨ (g.get? a).isSome = true then none else (h.get? a).map fun o => (a, o)
def qBc (g h : Heap) (L d : Addr) : List (Addr × Obj) := (qEv g h L).filter fun p => decide (p.1 ≠ d)
end L2
namespace L2
open PySem PySem.Spec PyProof.Rows
structure Mod (K : PySem.W.Frag) (mg : Str → Option Value) (base : Heap) : Prop where
  kin : K.In base
  glob : base.Ns mainGlobals mg
  blt : ∃ mb, base.Ns builtinsNs mb ∧ ∀ x : Str, x ≠ "__name__" → mb x = bootBuiltins x
  nolimit : base.NoLimit
structure Cx where
  prog : Program
  w : World
  K : PySem.W.Frag
  mg : Str → Option Value
  base : Heap
  A : Around
  N : List Str
  s₀ : Shared
  H₀ : Hp
  env : Env
  outer : List Env
  stack : List Env
  ex : List Addr
  fn : Str → Bool
  calm : Bool
  pn : List (Addr × Obj)
  xe : Value → Shared → Prop
def frs (l : List Env) : List Addr := l.filterMap (·.frame)
abbrev Cx.fs (X : Cx) : List Addr := frs X.outer
def Vis (sc : Scope) (x : Str) : Prop := sc.names.lookup x = some .local ∨ sc.names.lookup x = some .cell ∨ sc.names.lookup x = some .free
def Loc (sc : Scope) (x : Str) : Prop := sc.names.lookup x = some .local ∨ sc.names.lookup x = some .cell
def qH4 (env : Env) (h : Heap) (m : Str → Option Value) (x : Str) (u : Value) : Prop :=
  (env.kindOf x = some .local ∧ m x = some u) ∨ ((env.kindOf x = some .cell ∨ env.kindOf x = some .free) ∧ ∃ c, env.cells.lookup x = some c ∧ h.IsCell c (some u))
structure Cx.Ok (X : Cx) : Prop where
  mod : Mod X.K X.mg X.base
  kind : X.env.scope.kind = .function
  glob : X.env.globals = mainGlobals
  blt : X.env.builtins = builtinsNs
  above : X.s₀.heap.objs.size ≤ X.env.locals
  inj : ∀ x y c, X.env.cells.lookup x = some c → X.env.cells.lookup y = some c → x = y
  has : ∀ x, (X.env.kindOf x = some .cell ∨ X.env.kindOf x = some .free) → ∃ c, X.env.cells.lookup x = some c
  cab : ∀ x c, X.fn x = true → X.env.cells.lookup x = some c → X.s₀.heap.objs.size ≤ c
  hd : X.calm = true → X.A.handled = none
  frames : X.A.frames = some X.stack
  stk : X.stack = X.outer ∨ (X.stack = X.env :: X.outer ∧ X.env.frame = some X.env.locals)
  exf : ∀ b ∈ X.ex, b ≠ X.env.locals ∧ ∀ x c, X.env.cells.lookup x = some c → c ≠ b
  bs : ∀ b o, X.base.get? b = some o → X.s₀.heap.get? b = some o ∧ X.H₀ b = none
  bsz : X.base.objs.size ≤ X.s₀.heap.objs.size
  noex : ∀ b o, X.base.get? b = some o → b ∉ X.ex
  exfs : ∀ b ∈ X.ex, b ∉ X.fs
  funs : X.s₀.heap.FunFrames X.base X.outer
  frf : ∀ b ∈ X.fs, X.H₀ b = none
structure Inv (X : Cx) (pins : List (Addr × Obj)) (σ : List (Option V)) (H : Hp) (s : Shared) : Prop where
  ok : X.Ok
  os : s.os = X.s₀.os
  bare : AllBare s.gens
  base : Un X.fs X.ex X.H₀ H X.s₀.heap s.heap
  loc : ∃ m, s.heap.Ns X.env.locals m ∧ ∀ (i : Nat) (x : Str) (v : V), X.N[i]? = some x → σ[i]? = some (some v) → Vis X.env.scope x → ∃ u, RelV v u ∧ qH4 X.env s.heap m x u
  cell : ∀ x c, X.env.cells.lookup x = some c → ∃ v, s.heap.IsCell c v
  free : H X.env.locals = none
  freeC : ∀ x c, X.env.cells.lookup x = some c → H c = none
  pin : ∀ p ∈ X.pn ++ pins, s.heap.get? p.1 = some p.2 ∧ H p.1 = none ∧ p.1 ≠ X.env.locals ∧ p.1 ∉ X.fs ∧ ∀ v, p.2.data ≠ .cell v
  hok : HOk X.prog X.w H s.heap
  len : σ.length = X.N.length
section
variable {X : Cx} {pins : List (Addr × Obj)} {σ : List (Option V)} {H H' : Hp} {s : Shared} {h' : Heap}
theorem Cx.Ok.nofr (ok : X.Ok) {b : Addr} {o : Obj} (e : X.base.get? b = some o) : b ∉ X.fs := fun hb => by
  have := (ok.funs.mem hb).1
  rw [e] at this; cases this
theorem Inv.bs (I : Inv X pins σ H s) : ∀ b o, X.base.get? b = some o → s.heap.get? b = some o ∧ H b = none := fun b o e =>
  ⟨I.base.keep b o (I.ok.bs b o e).1 (I.ok.bs b o e).2 (I.ok.nofr e) (I.ok.noex b o e), I.base.free b o (I.ok.bs b o e).1 (I.ok.bs b o e).2 (I.ok.noex b o e)⟩
theorem Inv.bk (I : Inv X pins σ H s) : ∀ b o, X.base.get? b = some o → s.heap.get? b = some o := fun b o e => (I.bs b o e).1
theorem Inv.mod (I : Inv X pins σ H s) : Mod X.K X.mg X.base := I.ok.mod
theorem Inv.kIn (I : Inv X pins σ H s) : X.K.In s.heap := I.ok.mod.kin.keeps I.bk
theorem Inv.nolimit (I : Inv X pins σ H s) : s.heap.NoLimit := I.ok.mod.nolimit.keeps I.bk
theorem Inv.fr (I : Inv X pins σ H s) : ∃ m, Fr X.base X.env.locals s.heap m :=
  let ⟨m, hn, _⟩ := I.loc
  ⟨m, hn, I.bk, Nat.le_trans I.ok.bsz I.ok.above⟩
theorem Inv.lt (I : Inv X pins σ H s) : X.env.locals < s.heap.objs.size := let ⟨_, hn, _⟩ := I.loc; hn.lt
theorem Inv.sz (I : Inv X pins σ H s) : X.s₀.heap.objs.size ≤ s.heap.objs.size := Nat.le_trans I.ok.above (Nat.le_of_lt I.lt)
theorem Inv.nofs (I : Inv X pins σ H s) {a : Addr} (h : s.heap.objs.size ≤ a) : a ∉ X.fs := fun hb => by
  obtain ⟨_, o, ho, _⟩ := I.ok.funs.mem hb
  exact absurd (Nat.lt_of_lt_of_le (Heap.lt_size ho) (Nat.le_trans I.sz h)) (Nat.lt_irrefl _)
theorem Inv.cne (I : Inv X pins σ H s) : ∀ x c, X.env.cells.lookup x = some c → c ≠ X.env.locals := fun x c e z => by
  obtain ⟨v, o, ho, hd⟩ := I.cell x c e
  obtain ⟨m, ⟨o', es, ep, ho', hd', _⟩, _⟩ := I.loc
  rw [z, ho'] at ho; cases ho; rw [hd'] at hd; cases hd
theorem Inv.funs (I : Inv X pins σ H s) : s.heap.FunFrames X.base X.outer := by
  have all : ∀ (l : List Env), (∀ b ∈ frs l, b ∈ X.fs) → X.s₀.heap.FunFrames X.base l → s.heap.FunFrames X.base l := by
    intro l
    induction l with
    | nil => intro _ _; trivial
    | cons env r ih =>
      intro hs hl
      obtain ⟨hk, ⟨L, o, hf, hn, ho, hd⟩, hr⟩ := hl
      have hL : L ∈ X.fs := hs L (by unfold frs; rw [List.filterMap_cons, hf]; exact List.mem_cons_self)
      obtain ⟨sl, e⟩ := I.base.slot L o ho (I.ok.frf L hL) hL fun z => I.ok.exfs L z hL
      exact ⟨hk, ⟨L, _, hf, hn, e, hd⟩, ih (fun b hb => hs b (by unfold frs; rw [List.filterMap_cons, hf]; exact List.mem_cons_of_mem _ hb)) hr⟩
  exact all X.outer (fun _ hb => hb) I.ok.funs
theorem Inv.stack (I : Inv X pins σ H s) : s.heap.FunFrames X.base X.stack := by
  rcases I.ok.stk with e | ⟨e, hf⟩
  · rw [e]; exact I.funs
  · rw [e]
    obtain ⟨m, hn, _⟩ := I.loc
    refine .cons (by rw [I.ok.kind]; decide) hf hn ?_ I.funs
    exact Heap.get?_none_of_le (Nat.le_trans I.ok.bsz I.ok.above)
theorem Inv.stkSub (I : Inv X pins σ H s) : ∀ b ∈ frs X.stack, b ∈ X.env.locals :: X.fs := fun b hb => by
  rcases I.ok.stk with e | ⟨e, hf⟩
  · rw [e] at hb; exact List.mem_cons_of_mem _ hb
  · rw [e] at hb
    unfold frs at hb
    rw [List.filterMap_cons, hf] at hb
    exact hb
theorem Inv.stkFree (I : Inv X pins σ H s) : ∀ b ∈ frs X.stack, H b = none := fun b hb => by
  rcases List.mem_cons.mp (I.stkSub b hb) with e | hb
  · rw [e]; exact I.free
  · obtain ⟨_, o, ho, _⟩ := I.ok.funs.mem hb
    exact I.base.free b o ho (I.ok.frf b hb) fun z => I.ok.exfs b z hb
theorem Inv.step {g' : Array GenState} {t' : Nat} {d' : Drawn} {ch : List Addr} (I : Inv X pins σ H s)
    (hch : ∀ b ∈ ch, (b ∈ X.ex ∨ X.s₀.heap.objs.size ≤ b) ∧ b ≠ X.env.locals ∧ (∀ x c, X.env.cells.lookup x = some c → c ≠ b) ∧ ∀ p ∈ X.pn ++ pins, p.1 ≠ b)
    (keep : ∀ b o, b ≠ X.env.locals → b ∉ X.fs → b ∉ ch → s.heap.get? b = some o → H b = none → h'.get? b = some o)
    (slot : ∀ b o, b ≠ X.env.locals → b ∈ X.fs → b ∉ ch → s.heap.get? b = some o → H b = none → ∃ sl, h'.get? b = some { o with slots := sl }) (free : ∀ b o, b ∉ ch → s.heap.get? b = some o → H b = none → H' b = none)
    (there : ∀ b o, b ∉ ch → s.heap.get? b = some o → ∃ o', h'.get? b = some o')
    (tups : ∀ b xs, H b = some (.tup xs) → H' b = some (.tup xs)) (frzs : ∀ b o u, H b = some (.frz o u) → H' b = some (.frz o u)) (tbls : ∀ b ps, H b = some (.tbl ps) → ∃ more, H' b = some (.tbl (ps ++ more)))
    (ns : ∀ m, s.heap.Ns X.env.locals m → h'.Ns X.env.locals m) (hok : HOk X.prog X.w H' h') (hg : AllBare g') :
    Inv X pins σ H' { s with heap := h', gens := g', drawn := d', toks := t' } := by
  have neL : ∀ b o, X.s₀.heap.get? b = some o → b ≠ X.env.locals := fun b o e => Nat.ne_of_lt (Nat.lt_of_lt_of_le (Heap.lt_size e) I.ok.above)
  have neC : ∀ b o, X.s₀.heap.get? b = some o → b ∉ X.ex → b ∉ ch := fun b o e hx hb => by
    rcases (hch b hb).1 with z | z
    · exact hx z
    · exact absurd (Nat.lt_of_lt_of_le (Heap.lt_size e) z) (Nat.lt_irrefl _)
  have cellK : ∀ x c, X.env.cells.lookup x = some c → ∀ v, s.heap.IsCell c v → h'.IsCell c v := fun x c e v ⟨o, ho, hd⟩ => by
    have nch : c ∉ ch := fun z => (hch c z).2.2.1 x c e rfl
    by_cases hc : c ∈ X.fs
    · obtain ⟨sl, q⟩ := slot c o (I.cne x c e) hc nch ho (I.freeC x c e)
      exact ⟨_, q, hd⟩
    · exact ⟨o, keep c o (I.cne x c e) hc nch ho (I.freeC x c e), hd⟩
  refine ⟨I.ok, I.os, hg, ⟨fun b o e n hb hx => ?_, fun b o e n hb hx => ?_, fun b o e n hx => ?_, fun b o e hx => ?_, fun b xs e => tups b xs (I.base.tups b xs e), fun b o xs e => frzs b o xs (I.base.frzs b o xs e), fun b ps e => ?_⟩, ?_, fun x c e => ?_, ?_, fun x c e => ?_, fun p hp => ?_, hok, I.len⟩
  · exact keep b o (neL b o e) hb (neC b o e hx) (I.base.keep b o e n hb hx) (I.base.free b o e n hx)
  · obtain ⟨sl, e1⟩ := I.base.slot b o e n hb hx
    obtain ⟨sl', e2⟩ := slot b _ (neL b o e) hb (neC b o e hx) e1 (I.base.free b o e n hx)
    exact ⟨sl', e2⟩
  · obtain ⟨o', e1⟩ := I.base.there b o e hx
    exact free b o' (neC b o e hx) e1 (I.base.free b o e n hx)
  · obtain ⟨o', e1⟩ := I.base.there b o e hx
    exact there b o' (neC b o e hx) e1
  · obtain ⟨m1, e1⟩ := I.base.tbls b ps e
    obtain ⟨m2, e2⟩ := tbls b _ e1
    exact ⟨m1 ++ m2, by rw [e2, Array.append_assoc]⟩
  · obtain ⟨m, hn, hl⟩ := I.loc
    refine ⟨m, ns m hn, fun i x v e1 e2 e3 => ?_⟩
    obtain ⟨u, r, l⟩ := hl i x v e1 e2 e3
    refine ⟨u, r, ?_⟩
    rcases l with l | ⟨k, c, e, z⟩
    · exact .inl l
    · exact .inr ⟨k, c, e, cellK x c e _ z⟩
  · obtain ⟨v, z⟩ := I.cell x c e
    exact ⟨v, cellK x c e v z⟩
  · obtain ⟨m, ⟨o, _, _, ho, _⟩, _⟩ := I.loc
    exact free _ o (fun z => (hch _ z).2.1 rfl) ho I.free
  · obtain ⟨v, o, ho, hd⟩ := I.cell x c e
    exact free c o (fun z => (hch c z).2.2.1 x c e rfl) ho (I.freeC x c e)
  · obtain ⟨e, n, ne, nf, d⟩ := I.pin p hp
    have nch : p.1 ∉ ch := fun z => (hch p.1 z).2.2.2 p hp rfl
    exact ⟨keep p.1 p.2 ne nf nch e n, free p.1 p.2 nch e n, ne, nf, d⟩
theorem Inv.un {t' : Nat} (I : Inv X pins σ H s) (u : Un X.fs [] H H' s.heap h') (hok : HOk X.prog X.w H' h') : Inv X pins σ H' { s with heap := h', toks := t' } := by
  obtain ⟨m, ⟨o, es, ep, ho, r⟩, _⟩ := id I.loc
  obtain ⟨sl, hL⟩ := u.any ho I.free (by simp)
  exact I.step (g' := s.gens) (d' := s.drawn) (ch := []) (fun _ z => nomatch z) (fun b o _ hb _ e n => u.keep b o e n hb (by simp)) (fun b o _ hb _ e n => u.slot b o e n hb (by simp)) (fun b o _ e n => u.free b o e n (by simp)) (fun b o _ e => u.there b o e (by simp)) u.tups u.frzs u.tbls (fun m' hm => by
    obtain ⟨o', es', ep', ho', r'⟩ := hm
    rw [ho] at ho'; cases ho'
    exact ⟨_, es', ep', hL, r'⟩) hok I.bare
theorem Inv.call {g' : Array GenState} {t' : Nat} {d' : Drawn} {ch : List Addr} (I : Inv X pins σ H s) (u : Un (frs X.stack) ch H H' s.heap h') (hok : HOk X.prog X.w H' h') (hg : AllBare g')
    (hch : ∀ b ∈ ch, (b ∈ X.ex ∨ X.s₀.heap.objs.size ≤ b) ∧ b ≠ X.env.locals ∧ (∀ x c, X.env.cells.lookup x = some c → c ≠ b) ∧ ∀ p ∈ X.pn ++ pins, p.1 ≠ b) :
    Inv X pins σ H' { s with heap := h', gens := g', drawn := d', toks := t' } := by
  obtain ⟨m, ⟨o, es, ep, ho, r⟩, _⟩ := id I.loc
  obtain ⟨sl, hL⟩ := u.any ho I.free fun z => (hch _ z).2.1 rfl
  exact I.step (ch := ch) hch (fun b o hL hb hc e n => u.keep b o e n (fun z => (List.mem_cons.mp (I.stkSub b z)).elim hL hb) hc) (fun b o _ _ hc e n => u.any e n hc) (fun b o hc e n => u.free b o e n hc) (fun b o hc e => u.there b o e hc) u.tups u.frzs u.tbls (fun m' hm => by
    obtain ⟨o', es', ep', ho', r'⟩ := hm
    rw [ho] at ho'; cases ho'
    exact ⟨_, es', ep', hL, r'⟩) hok hg
theorem Inv.turned {t' : Nat} {it : Addr} (I : Inv X pins σ H s) (k : ∀ b o, b ≠ it → s.heap.get? b = some o → h'.get? b = some o) (hn : H it = none) (hL : it ≠ X.env.locals)
    (h1 : it ∈ X.ex ∨ X.s₀.heap.objs.size ≤ it) (h2 : ∀ x c, X.env.cells.lookup x = some c → c ≠ it) (h3 : ∀ p ∈ X.pn ++ pins, p.1 ≠ it) : Inv X pins σ H { s with heap := h', toks := t' } := by
  have nit : ∀ b u, H b = some u → b ≠ it := fun b u e z => by rw [z, hn] at e; cases e
  refine I.step (g' := s.gens) (d' := s.drawn) (ch := [it]) (fun b hb => ?_) (fun b o _ _ hc e _ => k b o (fun z => hc (by simp [z])) e) (fun b o _ _ hc e _ => ⟨o.slots, k b o (fun z => hc (by simp [z])) e⟩) (fun _ _ _ _ n => n)
    (fun b o hc e => ⟨o, k b o (fun z => hc (by simp [z])) e⟩) (fun _ _ e => e) (fun _ _ _ e => e) (fun b ps e => ⟨#[], by rw [e]; simp⟩) (fun m hm => ?_) (fun b u e => ?_) I.bare
  · have e : b = it := by simpa using hb
    subst e
    exact ⟨h1, hL, h2, h3⟩
  · obtain ⟨o, es, ep, ho, r⟩ := hm
    exact ⟨o, es, ep, k _ o (Ne.symm hL) ho, r⟩
  · refine (I.hok b u e).stay (fun c v hc q => k c v ?_ q) (fun _ q => q) fun _ _ q => q
    rcases hc with z | z
    · rw [z]; exact nit b u e
    · exact nit c _ z
theorem Inv.tok (I : Inv X pins σ H s) (t : Nat) : Inv X pins σ H { s with toks := t } := I.un (h' := s.heap) (t' := t) Un.refl I.hok
theorem Inv.kept {t' : Nat} (I : Inv X pins σ H s) (k : ∀ b u, s.heap.get? b = some u → h'.get? b = some u) : Inv X pins σ H { s with heap := h', toks := t' } := I.un (Un.kept k) (I.hok.kept k)
theorem Inv.laid {a : Addr} {o : HO} {t' : Nat} (I : Inv X pins σ H s) (k : ∀ b u, s.heap.get? b = some u → h'.get? b = some u) (hp : s.heap.objs.size ≤ a) (new : ObjOk X.prog X.w (upd H a o) h' a o) :
    Inv X pins σ (upd H a o) { s with heap := h', toks := t' } := I.un (Un.laid k hp (I.hok.fresh hp)) (I.hok.laid k hp new)
theorem Inv.write {x e : Addr} {o : HO} {t' : Nat} (I : Inv X pins σ H s) (mu : Mut (H x)) (he : e = x ∨ H e = some (.own x)) (k : ∀ b u, b ≠ e → s.heap.get? b = some u → h'.get? b = some u) (heo : ∃ u, h'.get? e = some u)
    (new : ObjOk X.prog X.w (upd H x o) h' x o) : Inv X pins σ (upd H x o) { s with heap := h', toks := t' } := I.un (Un.write mu he k heo) (I.hok.write mu he k heo new)
theorem Inv.weak {σ' : List (Option V)} (I : Inv X pins σ H s) (hl : σ'.length = σ.length) (w : ∀ (i : Nat) v, σ'[i]? = some (some v) → σ[i]? = some (some v)) : Inv X pins σ' H s :=
  ⟨I.ok, I.os, I.bare, I.base, let ⟨m, hn, hl'⟩ := I.loc; ⟨m, hn, fun i x v e1 e2 e3 => hl' i x v e1 (w i v e2) e3⟩, I.cell, I.free, I.freeC, I.pin, I.hok, hl.trans I.len⟩
theorem Inv.pins_of {pins' : List (Addr × Obj)} (I : Inv X pins σ H s) (h : ∀ p ∈ pins', s.heap.get? p.1 = some p.2 ∧ H p.1 = none ∧ p.1 ≠ X.env.locals ∧ p.1 ∉ X.fs ∧ ∀ v, p.2.data ≠ .cell v) : Inv X pins' σ H s :=
  ⟨I.ok, I.os, I.bare, I.base, I.loc, I.cell, I.free, I.freeC, fun p hp => (List.mem_append.mp hp).elim (fun z => I.pin p (List.mem_append_left _ z)) (h p), I.hok, I.len⟩
theorem vI {N : List Str} (hN : N.Nodup) {i j : Nat} {x : Str} (a : N[i]? = some x) (b : N[j]? = some x) : i = j := by
  obtain ⟨h1, e1⟩ := List.getElem?_eq_some_iff.mp a
  obtain ⟨h2, e2⟩ := List.getElem?_eq_some_iff.mp b
  exact (List.getElem_inj hN).mp (e1.trans e2.symm)
theorem wK {M : Model} {A : Around} {E : Value → Shared → Prop} {i : Nat} {x : Str} {v : V} {u : Value} {Q : Unit → Shared → Prop} (I : Inv X pins σ H s) (hN : X.N.Nodup) (hi : X.N[i]? = some x) (hx : Loc X.env.scope x) (r : RelV v u)
    (h : ∀ s', Inv X pins (σ.set i (some v)) H s' → (∃ a, Heap.SameBut a s.heap s'.heap ∧ (a = X.env.locals ∨ X.env.cells.lookup x = some a)) → Q () s') (hf : X.fn x = true ∨ X.env.scope.names.lookup x = some .local := by first | exact .inl rfl | exact .inr rfl | assumption) : wpAny M A (storeName X.env x u) Q E s := by
  obtain ⟨m, hn, hl⟩ := id I.loc
  have hcls : (X.env.scope.kind == .class || (X.env.scope.kind == .module && X.env.locals != X.env.globals)) = false := by rw [I.ok.kind]; rfl
  have hiσ : i < σ.length := by rw [I.len]; exact (List.getElem?_eq_some_iff.mp hi).1
  have cne := I.cne
  have tracked : ∀ {a : Addr} {h' : Heap}, (∃ o, s.heap.get? a = some o ∧ H a = none) → Heap.SameBut a s.heap h' → HOk X.prog X.w H h' := fun {a h'} ha hs b ob e => by
    obtain ⟨_, _, hfree⟩ := ha
    refine (I.hok b ob e).stay (fun c w' hc q => (hs.2 c ?_).trans q) (fun _ q => q) fun _ _ q => q
    rintro rfl
    rcases hc with rfl | hc
    · rw [hfree] at e; cases e
    · rw [hfree] at hc; cases hc
  rcases hx with hk | hk
  · refine wpAny_storeName_local hk hn (fun h' hn' hs => ?_) hcls
    obtain ⟨oL, _, _, hoL, _⟩ := id hn
    refine h _ ⟨I.ok, I.os, I.bare, ⟨fun b o e n hb hx => ?_, fun b o e n hb hx => ?_, I.base.free, fun b o e hx => ?_, I.base.tups, I.base.frzs, I.base.tbls⟩, ⟨_, hn', fun j y v' e1 e2 e3 => ?_⟩, fun y c e => ?_, I.free, I.freeC, fun p hp => ?_, tracked ⟨oL, hoL, I.free⟩ hs, by simpa using I.len⟩ ⟨_, hs, .inl rfl⟩
    · exact (hs.2 b (Nat.ne_of_lt (Nat.lt_of_lt_of_le (Heap.lt_size e) I.ok.above))).trans (I.base.keep b o e n hb hx)
    · obtain ⟨sl, e1⟩ := I.base.slot b o e n hb hx
      exact ⟨sl, (hs.2 b (Nat.ne_of_lt (Nat.lt_of_lt_of_le (Heap.lt_size e) I.ok.above))).trans e1⟩
    · obtain ⟨o', e1⟩ := I.base.there b o e hx
      exact ⟨o', (hs.2 b (Nat.ne_of_lt (Nat.lt_of_lt_of_le (Heap.lt_size e) I.ok.above))).trans e1⟩
    · by_cases hj : j = i
      · subst hj
        rw [hi] at e1; cases e1
        rw [List.getElem?_set_self hiσ] at e2
        cases e2
        exact ⟨u, r, .inl ⟨hk, by simp⟩⟩
      · rw [List.getElem?_set_ne (Ne.symm hj)] at e2
        obtain ⟨u', r', q⟩ := hl j y v' e1 e2 e3
        refine ⟨u', r', ?_⟩
        rcases q with ⟨k, e⟩ | ⟨k, c, e, z⟩
        · refine .inl ⟨k, ?_⟩
          have : y ≠ x := fun e => hj (vI hN e1 (e ▸ hi))
          simp [this, e]
        · exact .inr ⟨k, c, e, z.sameBut hs (cne y c e)⟩
    · obtain ⟨w', z⟩ := I.cell y c e
      exact ⟨w', z.sameBut hs (cne y c e)⟩
    · obtain ⟨e, n, ne, nf, d⟩ := I.pin p hp
      exact ⟨(hs.2 p.1 ne).trans e, n, ne, nf, d⟩
  · have hfn : X.fn x = true := by
      rcases hf with z | z
      · exact z
      · rw [z] at hk; cases hk
    obtain ⟨c, hc⟩ := I.ok.has x (.inl hk)
    obtain ⟨w', z⟩ := I.cell x c hc
    refine wpAny_storeName_cell I.ok.kind hk hc z (fun h' hc' hs => ?_)
    obtain ⟨oc, hoc, hocd⟩ := id z
    refine h { s with heap := h' } ⟨I.ok, I.os, I.bare, ⟨fun b o e n hb hx => ?_, fun b o e n hb hx => ?_, I.base.free, fun b o e hx => ?_, I.base.tups, I.base.frzs, I.base.tbls⟩, ⟨m, hn.sameBut hs (Ne.symm (cne x c hc)), fun j y v' e1 e2 e3 => ?_⟩, fun y c' e => ?_, I.free, I.freeC, fun p hp => ?_, tracked ⟨oc, hoc, I.freeC x c hc⟩ hs, by simpa using I.len⟩ ⟨c, hs, .inr hc⟩
    · exact (hs.2 b (Nat.ne_of_lt (Nat.lt_of_lt_of_le (Heap.lt_size e) (I.ok.cab x c hfn hc)))).trans (I.base.keep b o e n hb hx)
    · obtain ⟨sl, e1⟩ := I.base.slot b o e n hb hx
      exact ⟨sl, (hs.2 b (Nat.ne_of_lt (Nat.lt_of_lt_of_le (Heap.lt_size e) (I.ok.cab x c hfn hc)))).trans e1⟩
    · obtain ⟨o', e1⟩ := I.base.there b o e hx
      exact ⟨o', (hs.2 b (Nat.ne_of_lt (Nat.lt_of_lt_of_le (Heap.lt_size e) (I.ok.cab x c hfn hc)))).trans e1⟩
    · by_cases hj : j = i
      · subst hj
        rw [hi] at e1; cases e1
        rw [List.getElem?_set_self hiσ] at e2
        cases e2
        exact ⟨u, r, .inr ⟨.inl hk, c, hc, hc'⟩⟩
      · rw [List.getElem?_set_ne (Ne.symm hj)] at e2
        obtain ⟨u', r', q⟩ := hl j y v' e1 e2 e3
        refine ⟨u', r', ?_⟩
        rcases q with q | ⟨k, c', e, z'⟩
        · exact .inl q
        · refine .inr ⟨k, c', e, z'.sameBut hs ?_⟩
          rintro rfl
          exact hj (vI hN e1 (I.ok.inj _ _ _ e hc ▸ hi))
    · by_cases hcc : c' = c
      · subst hcc; exact ⟨_, hc'⟩
      · obtain ⟨w2, z2⟩ := I.cell y c' e
        exact ⟨w2, z2.sameBut hs hcc⟩
    · obtain ⟨e, n, ne, nf, d⟩ := I.pin p hp
      refine ⟨(hs.2 p.1 ?_).trans e, n, ne, nf, d⟩
      intro q
      rw [q, hoc] at e
      have q' : oc = p.2 := Option.some.inj e
      exact d w' (by rw [← q']; exact hocd)
theorem xG {M : Model} {A : Around} {E : Value → Shared → Prop} {i : Nat} {x : Str} {v : V} {u : Value} {Q : Unit → Shared → Prop} (I : Inv X pins σ H s) (hN : X.N.Nodup) (hi : X.N[i]? = some x) (hx : Loc X.env.scope x) (r : RelV v u)
    (h : ∀ s', Inv X pins (σ.set i (some v)) H s' → Q () s') (hf : X.fn x = true ∨ X.env.scope.names.lookup x = some .local := by first | exact .inl rfl | exact .inr rfl | assumption) : wpAny M A (storeName X.env x u) Q E s :=
  wK I hN hi hx r (fun s' I' _ => h s' I') hf
theorem Inv.call' {s' : Shared} {ch : List Addr} (I : Inv X pins σ H s) (ho : s'.os = s.os) (u : Un (frs X.stack) ch H H' s.heap s'.heap) (hok : HOk X.prog X.w H' s'.heap) (hg : AllBare s'.gens)
    (hch : ∀ b ∈ ch, (b ∈ X.ex ∨ X.s₀.heap.objs.size ≤ b) ∧ b ≠ X.env.locals ∧ (∀ x c, X.env.cells.lookup x = some c → c ≠ b) ∧ ∀ p ∈ X.pn ++ pins, p.1 ≠ b) : Inv X pins σ H' s' := by
  obtain ⟨h', g', d', t', o'⟩ := s'
  have e : o' = s.os := ho
  subst e
  exact I.call (g' := g') (t' := t') (d' := d') u hok hg hch
end
abbrev XK := Value → Option Addr → Hp → Prop
abbrev St := List (Option V)
abbrev VK := V → Hp → Prop
abbrev TE := St → Hp → VK → Prop
abbrev TT := St → Hp → (Bool → Hp → Prop) → Prop
abbrev TA := St → Hp → (List V → Hp → Prop) → Prop
structure qBh where
  nx : St → Hp → Prop
  rt : VK
  bk : St → Hp → Prop := fun _ _ => False
  ct : St → Hp → Prop := fun _ _ => False
abbrev TS := qBh → St → Hp → Prop
def EP (X : Cx) (pins : List (Addr × Obj)) (σ : St) (Q : VK) (u : Value) (s' : Shared) : Prop := ∃ v H', Inv X pins σ H' s' ∧ RelV v u ∧ Q v H'
def TP (X : Cx) (pins : List (Addr × Obj)) (σ : St) (Q : Bool → Hp → Prop) (b : Bool) (s' : Shared) : Prop := ∃ H', Inv X pins σ H' s' ∧ Q b H'
def AP (X : Cx) (pins : List (Addr × Obj)) (σ : St) (Q : List V → Hp → Prop) (us : List Value) (s' : Shared) : Prop := ∃ vs H', Inv X pins σ H' s' ∧ Vals vs us ∧ Q vs H'
def SP (X : Cx) (pins : List (Addr × Obj)) (D : qBh) (f : Flow) (s' : Shared) : Prop :=
  match f with
  | .next => ∃ σ' H', Inv X pins σ' H' s' ∧ D.nx σ' H'
  | .brk => ∃ σ' H', Inv X pins σ' H' s' ∧ D.bk σ' H'
  | .cont => ∃ σ' H', Inv X pins σ' H' s' ∧ D.ct σ' H'
  | .ret u => ∃ v σ' H', Inv X pins σ' H' s' ∧ RelV v u ∧ D.rt v H'
def PE (X : Cx) (e : Expr) (t : TE) : Prop :=
  ∀ (pins : List (Addr × Obj)) (s : Shared) (σ : St) (H : Hp) (Q : VK), Inv X pins σ H s → t σ H Q → wpAny (model X.prog X.w) X.A (eval e X.env) (EP X pins σ Q) X.xe s
def PT (X : Cx) (e : Expr) (t : TT) : Prop :=
  ∀ (pins : List (Addr × Obj)) (s : Shared) (σ : St) (H : Hp) (Q : Bool → Hp → Prop), Inv X pins σ H s → t σ H Q → wpAny (model X.prog X.w) X.A (isTrue e X.env (eval e X.env)) (TP X pins σ Q) X.xe s
def PW (X : Cx) (e : Expr) (t : TT) : Prop :=
  ∀ (whole : Sem Value) (pins : List (Addr × Obj)) (s : Shared) (σ : St) (H : Hp) (Q : Bool → Hp → Prop), Inv X pins σ H s → t σ H Q → wpAny (model X.prog X.w) X.A (isTrue e X.env whole) (TP X pins σ Q) X.xe s
theorem PW.pt {X : Cx} {e : Expr} {t : TT} (h : PW X e t) : PT X e t := h _
def PA (X : Cx) (es : List Expr) (t : TA) : Prop :=
  ∀ (pos : Pos) (pins : List (Addr × Obj)) (s : Shared) (σ : St) (H : Hp) (Q : List V → Hp → Prop), Inv X pins σ H s → t σ H Q → wpAny (model X.prog X.w) X.A (spliced (backTo pos (starEach es X.env))) (AP X pins σ Q) X.xe s
def PS (X : Cx) (st : Stmt) (t : TS) : Prop :=
  ∀ (pins : List (Addr × Obj)) (s : Shared) (σ : St) (H : Hp) (D : qBh), Inv X pins σ H s → t D σ H → wpAny (model X.prog X.w) X.A (exec st X.env) (SP X pins D) X.xe s
def PSs (X : Cx) (st : List Stmt) (t : TS) : Prop :=
  ∀ (pins : List (Addr × Obj)) (s : Shared) (σ : St) (H : Hp) (D : qBh), Inv X pins σ H s → t D σ H → wpAny (model X.prog X.w) X.A (execs st X.env) (SP X pins D) X.xe s
theorem thn {α : Type} {t : Sem α} {Q Q' : α → Shared → Prop} {M : Model} {A : Around} {E : Value → Shared → Prop} {s : Shared} (h : wpAny M A t Q E s) (hQ : ∀ a s, Q a s → Q' a s) : wpAny M A t Q' E s := wpAny_mono h hQ fun _ _ x => x
end L2
namespace L2
open PySem PySem.Spec PyProof.Rows
section
variable {X : Cx}
def qGu (i : Nat) : TE := fun σ H Q => ∃ v, σ[i]? = some (some v) ∧ Q v H
def tC (v : V) : TE := fun _ H Q => Q v H
theorem qFk {i : Nat} {x : Str} {pos : Pos} (hN : X.N[i]? = some x) (hv : Vis X.env.scope x) (hd : (x == ("__debug__" : Str)) = false := by decide) (hcd : (x == ("__classdict__" : Str)) = false := by decide) : PE X (.Name x pos) (qGu i) := by
  intro pins s σ H Q I h
  obtain ⟨v, e, h⟩ := h
  obtain ⟨m, hn, hl⟩ := I.loc
  obtain ⟨u, r, l⟩ := hl i x v hN e hv
  have fin : EP X pins σ Q u s := ⟨v, H, I, r, h⟩
  rcases l with ⟨hk, hm⟩ | ⟨hk, c, hc, hcell⟩
  · exact wpAny_Name (wpAny_loadName_local I.ok.kind hk hn hm fin) hd
  · rcases hk with hk | hk
    · exact wpAny_Name (wpAny_loadName_cell I.ok.kind hk hc hcell fin) hd
    · exact wpAny_Name (wpAny_loadName_free I.ok.kind hk hc hcell fin hcd) hd
theorem qB {i j pos} : PE X (.Constant (.int i) j pos) (tC (.int i)) := fun _ _ _ H _ I h => wpAny_Constant_int ⟨.int i, H, I.tok _, ⟨_, rfl⟩, h⟩
theorem xW {b j pos} : PE X (.Constant (.bool b) j pos) (tC (.bl b)) := fun _ _ _ H _ I h => Constant_bool ⟨.bl b, H, I, rfl, h⟩
theorem qD1 {j pos} : PE X (.Constant .none j pos) (tC .non) := fun _ _ _ H _ I h => Constant_none ⟨.non, H, I, rfl, h⟩
theorem qY {x j pos} : PE X (.Constant (.str x) j pos) (tC (.str x)) := fun _ _ _ H _ I h => Calls.Constant_str ⟨.str x, H, I.tok _, ⟨_, rfl⟩, h⟩
def Gl (X : Cx) (x : Str) : Prop := X.env.kindOf x = some .globalImplicit
theorem wU {E : Value → Shared → Prop} {pins : List (Addr × Obj)} {s : Shared} {σ : St} {H : Hp} {x : Str} {u : Value} {pos : Pos} {Q : Value → Shared → Prop} (I : Inv X pins σ H s) (hg : Gl X x) (hm : X.mg x = some u) (h : Q u s)
    (hd : (x == ("__debug__" : Str)) = false := by decide) : wpAny (model X.prog X.w) X.A (eval (.Name x pos) X.env) Q E s :=
  Calls.Name_function_global I.ok.kind hg (Calls.loadGlobal_global (by rw [I.ok.glob]; exact I.mod.glob.keeps I.bk) hm h) hd
theorem wO {E : Value → Shared → Prop} {pins : List (Addr × Obj)} {s : Shared} {σ : St} {H : Hp} {x : Str} {u : Value} {pos : Pos} {Q : Value → Shared → Prop} (I : Inv X pins σ H s) (hg : Gl X x) (hm : X.mg x = none) (hv : bootBuiltins x = some u) (h : Q u s)
    (hn : x ≠ "__name__" := by decide) (hd : (x == ("__debug__" : Str)) = false := by decide) : wpAny (model X.prog X.w) X.A (eval (.Name x pos) X.env) Q E s := by
  obtain ⟨mb, h1, h2⟩ := I.mod.blt
  exact Calls.Name_function_global I.ok.kind hg (Calls.loadGlobal_builtin (by rw [I.ok.glob]; exact I.mod.glob.keeps I.bk) hm (by rw [I.ok.blt]; exact h1.keeps I.bk) ((h2 x hn).trans hv) h) hd
theorem xI {x : Str} {v : V} {u : Value} {pos : Pos} (hg : Gl X x) (hm : X.mg x = some u) (r : RelV v u) (hd : (x == ("__debug__" : Str)) = false := by decide) : PE X (.Name x pos) (tC v) :=
  fun _ _ _ H _ I h => wU I hg hm ⟨v, H, I, r, h⟩ hd
theorem qEn {x : Str} {v : V} {u : Value} {pos : Pos} (hg : Gl X x) (hm : X.mg x = none) (hv : bootBuiltins x = some u) (r : RelV v u) (hn : x ≠ "__name__" := by decide) (hd : (x == ("__debug__" : Str)) = false := by decide) : PE X (.Name x pos) (tC v) :=
  fun _ _ _ H _ I h => wO I hg hm hv ⟨v, H, I, r, h⟩ hn hd
variable {a b : Expr} {ta tb : TE} {pos : Pos}
def PC (X : Cx) (op : CmpOp) (a b : Expr) (t : TE) : Prop :=
  ∀ (pins : List (Addr × Obj)) (s : Shared) (σ : St) (H : Hp) (Q : VK), Inv X pins σ H s → t σ H Q →
    wpAny (model X.prog X.w) X.A (eval a X.env) (fun v s₁ => wpAny (model X.prog X.w) X.A (eval b X.env) (fun u s₂ => wpAny (model X.prog X.w) X.A (compareOp op v u) (EP X pins σ Q) X.xe s₂) X.xe s₁) X.xe s
theorem qCy (b : Expr) {op : CmpOp} (h : op ≠ .In) (h2 : op ≠ .NotIn) : behindInMarks op b = false := by
  have e1 : (op == CmpOp.In) = false := by cases op <;> first | rfl | exact absurd rfl h
  have e2 : (op == CmpOp.NotIn) = false := by cases op <;> first | rfl | exact absurd rfl h2
  cases b <;> simp [behindInMarks, e1, e2]
def qH3 (ta : TE) : TE := fun σ H Q => ta σ H fun x H1 => Q (.bl (decide (x = .non))) H1
theorem RelV.none_iff {x : V} {v : Value} (r : RelV x v) : (v == Value.none) = decide (x = .non) := by
  cases x with
  | non => cases r; rfl
  | bl _ => cases r; rfl
  | int _ => obtain ⟨t, rfl⟩ := r; rfl
  | str _ => obtain ⟨t, rfl⟩ := r; rfl
  | byt _ => obtain ⟨t, rfl⟩ := r; rfl
  | flt _ => obtain ⟨t, rfl⟩ := r; rfl
  | ref _ => cases r; rfl
  | ty _ => cases r; rfl
theorem qFx {j pos'} (ha : PE X a ta) : PC X .Is a (.Constant .none j pos') (qH3 ta) := by
  intro pins s σ H Q I h
  refine thn (ha pins s σ H _ I h) fun v s1 ⟨x, H1, I1, r1, q1⟩ => ?_
  exact Constant_none (is_none_gen ⟨.bl _, H1, I1, by rw [r1.none_iff]; rfl, q1⟩)
def tB (t : TE) : TT := fun σ H Q => t σ H fun x H1 => ∃ c, x = .bl c ∧ Q c H1
theorem qE8 {op : CmpOp} {t : TE} (h : PC X op a b t) (h1 : behindInMarks op b = false := by first | exact qCy _ (by decide) (by decide) | rfl) : PT X (.Compare a [op] [b] pos) (tB t) := by
  intro pins s σ H Q I hw
  refine wpAny_isTrue_Compare1 (thn (h pins s σ H _ I hw) fun v s1 h1 => thn h1 fun u s2 h2 => thn h2 fun c s3 ⟨x, H1, I1, r1, q1⟩ => ?_) h1
  obtain ⟨d, rfl, q⟩ := q1
  cases r1
  exact wpAny_truthy_bool ⟨H1, I1, q⟩
theorem jK {e : Expr} {t : TE} (h : PE X e t) (he : ∀ whole, isTrue e X.env whole = (do let v ← whole; standAt e.pos; holding [v] (truthy v)) := by intro _; rfl) : PT X e (tB t) := by
  intro pins s σ H Q I hw
  refine isTrue_plain (thn (h pins s σ H _ I hw) fun v s1 ⟨x, H1, I1, r1, q1⟩ => ?_) (he _)
  obtain ⟨d, rfl, q⟩ := q1
  cases r1
  exact wpAny_truthy_bool ⟨H1, I1, q⟩
variable {tA tB' : TT} {qBc : List Expr}
def qHi (t u : TT) : TT := fun σ H Q => t σ H fun c H1 => if c = true then u σ H1 Q else Q false H1
def tOr (t u : TT) : TT := fun σ H Q => t σ H fun c H1 => if c = true then Q true H1 else u σ H1 Q
def qHg (t : TT) : TT := fun σ H Q => t σ H fun c H1 => Q (!c) H1
theorem vU (ha : PT X a tA) : PW X (.BoolOp .And [a] pos) tA := by
  intro wh pins s σ H Q I h
  refine isTrue_and (thn (ha pins s σ H Q I h) fun c s1 e => ?_)
  cases c with
  | true => exact isTrue_and_nil e
  | false => exact e
theorem jm (ha : PT X a tA) : PW X (.BoolOp .Or [a] pos) tA := by
  intro wh pins s σ H Q I h
  refine isTrue_or (thn (ha pins s σ H Q I h) fun c s1 e => ?_)
  cases c with
  | false => exact isTrue_or_nil e
  | true => exact e
theorem zZ (ha : PT X a tA) (hb : PW X (.BoolOp .And (b :: qBc) pos) tB') : PW X (.BoolOp .And (a :: b :: qBc) pos) (qHi tA tB') := by
  intro wh pins s σ H Q I h
  refine isTrue_and (thn (ha pins s σ H _ I h) fun c s1 ⟨H1, I1, q1⟩ => ?_)
  cases c with
  | true => exact hb wh pins s1 σ H1 Q I1 q1
  | false => exact ⟨H1, I1, q1⟩
theorem j4 (ha : PT X a tA) (hb : PW X (.BoolOp .Or (b :: qBc) pos) tB') : PW X (.BoolOp .Or (a :: b :: qBc) pos) (tOr tA tB') := by
  intro wh pins s σ H Q I h
  refine isTrue_or (thn (ha pins s σ H _ I h) fun c s1 ⟨H1, I1, q1⟩ => ?_)
  cases c with
  | true => exact ⟨H1, I1, q1⟩
  | false => exact hb wh pins s1 σ H1 Q I1 q1
theorem jS (ha : PT X a tA) : PT X (.UnaryOp .Not a pos) (qHg tA) := by
  intro pins s σ H Q I h
  exact isTrue_not (ha pins s σ H (fun c H1 => Q (!c) H1) I h)
def qGy (ta tb : TE) : TE := fun σ H Q => ta σ H fun x H1 => ∃ c, x = .bl c ∧ if c = true then tb σ H1 Q else Q (.bl false) H1
def qHn (ta tb : TE) : TE := fun σ H Q => ta σ H fun x H1 => ∃ c, x = .bl c ∧ if c = true then Q (.bl true) H1 else tb σ H1 Q
def qGd (ta : TE) : TE := fun σ H Q => ta σ H fun x H1 => ∃ c, x = .bl c ∧ Q (.bl (!c)) H1
theorem xf {op} {t : TE} (h : PE X a t) : PE X (.BoolOp op [a] pos) t := fun pins s σ H Q I hw => BoolOp_one (h pins s σ H Q I hw)
theorem xq (ha : PE X a ta) (hb : PE X (.BoolOp .And (b :: qBc) pos) tb) : PE X (.BoolOp .And (a :: b :: qBc) pos) (qGy ta tb) := by
  intro pins s σ H Q I h
  refine BoolOp_and (thn (ha pins s σ H _ I h) fun v s1 ⟨x, H1, I1, r1, q1⟩ => ?_)
  obtain ⟨c, rfl, q1⟩ := q1
  cases r1
  refine wpAny_truthy_bool ?_
  cases c with
  | true => exact hb pins s1 σ H1 Q I1 q1
  | false => exact ⟨.bl false, H1, I1, rfl, q1⟩
theorem qFt (ha : PE X a ta) (hb : PE X (.BoolOp .Or (b :: qBc) pos) tb) : PE X (.BoolOp .Or (a :: b :: qBc) pos) (qHn ta tb) := by
  intro pins s σ H Q I h
  refine BoolOp_or (thn (ha pins s σ H _ I h) fun v s1 ⟨x, H1, I1, r1, q1⟩ => ?_)
  obtain ⟨c, rfl, q1⟩ := q1
  cases r1
  refine wpAny_truthy_bool ?_
  cases c with
  | false => exact hb pins s1 σ H1 Q I1 q1
  | true => exact ⟨.bl true, H1, I1, rfl, q1⟩
theorem qCj (ha : PE X a ta) : PE X (.UnaryOp .Not a pos) (qGd ta) := by
  intro pins s σ H Q I h
  refine UnaryOp_ (thn (ha pins s σ H _ I h) fun v s1 ⟨x, H1, I1, r1, q1⟩ => ?_)
  obtain ⟨c, rfl, q1⟩ := q1
  cases r1
  exact not_of (wpAny_truthy_bool ⟨.bl (!c), H1, I1, rfl, q1⟩)
def tIf (t : TT) (ta tb : TE) : TE := fun σ H Q => t σ H fun c H1 => if c = true then ta σ H1 Q else tb σ H1 Q
theorem qAl {c : Expr} (hc : PT X c tA) (ha : PE X a ta) (hb : PE X b tb) : PE X (.IfExp c a b pos) (tIf tA ta tb) := by
  intro pins s σ H Q I h
  refine wpAny_IfExp (thn (hc pins s σ H _ I h) fun d s1 ⟨H1, I1, q1⟩ => ?_)
  cases d with
  | true => exact ha pins s1 σ H1 Q I1 q1
  | false => exact hb pins s1 σ H1 Q I1 q1
end
end L2
namespace L2
open PySem PySem.Spec PyProof.Rows
def SqL (K : PySem.W.Frag) (H : Hp) (a : Addr) (xs : List V) : Prop :=
  Rd H a (.lst xs) ∨
    ∃ (o : Obj) (its : Array Value) (n : Nat), K.lookup a = some o ∧ o.cls = .type "list" ∧ o.dict = none ∧ o.data = .seq its n ∧ its.size ≤ sizeLine ∧ Vals xs its.toList
def SqT (K : PySem.W.Frag) (H : Hp) (a : Addr) (xs : List V) : Prop :=
  Rd H a (.tup xs) ∨
    ∃ (o : Obj) (its : Array Value) (n : Nat), K.lookup a = some o ∧ o.cls = .type "tuple" ∧ o.data = .seq its n ∧ its.size ≤ sizeLine ∧ Vals xs its.toList
def qHz : Value → Option V
  | .none => some .non
  | .bool b => some (.bl b)
  | .int i _ => some (.int i)
  | .str x _ => some (.str x)
  | .bytes b _ => some (.byt b)
  | .float b _ => some (.flt b)
  | .ref a => some (.ref a)
  | .type n => some (.ty n)
  | _ => none
theorem RelV.abs {x : V} {u : Value} (r : RelV x u) : qHz u = some x := by
  cases x with
  | non => cases r; rfl
  | bl _ => cases r; rfl
  | int _ => obtain ⟨t, rfl⟩ := r; rfl
  | str _ => obtain ⟨t, rfl⟩ := r; rfl
  | byt _ => obtain ⟨t, rfl⟩ := r; rfl
  | flt _ => obtain ⟨t, rfl⟩ := r; rfl
  | ref _ => cases r; rfl
  | ty _ => cases r; rfl
theorem RelV.inj {x y : V} {u : Value} (r : RelV x u) (q : RelV y u) : x = y := Option.some.inj (r.abs.symm.trans q.abs)
theorem Vals.inj : ∀ {xs ys : List V} {us : List Value}, Vals xs us → Vals ys us → xs = ys
  | _, _, _, .nil, .nil => rfl
  | _, _, _, .cons r t, .cons r' t' => by rw [r.inj r', Vals.inj t t']
section
variable {X : Cx} {pins : List (Addr × Obj)} {σ : St} {H : Hp} {s : Shared} {a : Addr} {xs ys : List V}
theorem SqL.of {K : PySem.W.Frag} (h : H a = some (.lst xs)) : SqL K H a xs := .inl (.inl h)
theorem SqT.of {K : PySem.W.Frag} (h : H a = some (.tup xs)) : SqT K H a xs := .inl (.inl h)
theorem Inv.list (I : Inv X pins σ H s) (h : SqL X.K H a xs) : ∃ its : List Value, Vals xs its ∧ PlainL s.heap a its.toArray ∧ xs.length ≤ sizeLine := by
  rcases h with h | ⟨o, its, n, hk, hc, hd, hs, hz, r⟩
  · obtain ⟨z, its, n, r, e⟩ := h.ok I.hok
    exact ⟨its, r, ⟨_, n, e, rfl, rfl, rfl⟩, z⟩
  · refine ⟨its.toList, r, ⟨o, n, I.kIn a o hk, hc, hd, by simpa using hs⟩, ?_⟩
    have e := r.length
    simp only [Array.length_toList] at e
    omega
theorem Inv.tuple (I : Inv X pins σ H s) (h : SqT X.K H a xs) : ∃ its : List Value, Vals xs its ∧ IsTup s.heap a its.toArray ∧ xs.length ≤ sizeLine := by
  rcases h with h | ⟨o, its, n, hk, hc, hs, hz, r⟩
  · obtain ⟨z, its, r, p⟩ := h.ok I.hok
    exact ⟨its, r, p, z⟩
  · refine ⟨its.toList, r, ⟨o, I.kIn a o hk, hc, n, by simpa using hs⟩, ?_⟩
    have e := r.length
    simp only [Array.length_toList] at e
    omega
theorem Inv.list_inj (I : Inv X pins σ H s) (h : SqL X.K H a xs) (h' : SqL X.K H a ys) : xs = ys := by
  obtain ⟨its, r, ⟨o, n, e, _, _, d⟩, _⟩ := I.list h
  obtain ⟨its', r', ⟨o', n', e', _, _, d'⟩, _⟩ := I.list h'
  rw [e] at e'; cases e'
  rw [d] at d'
  injection d' with d1 _
  have : its = its' := by simpa using congrArg Array.toList d1
  subst this
  exact r.inj r'
theorem Inv.tuple_inj (I : Inv X pins σ H s) (h : SqT X.K H a xs) (h' : SqT X.K H a ys) : xs = ys := by
  obtain ⟨its, r, ⟨o, e, _, n, d⟩, _⟩ := I.tuple h
  obtain ⟨its', r', ⟨o', e', _, n', d'⟩, _⟩ := I.tuple h'
  rw [e] at e'; cases e'
  rw [d] at d'
  injection d' with d1 _
  have : its = its' := by simpa using congrArg Array.toList d1
  subst this
  exact r.inj r'
end
abbrev Cx.wish (X : Cx) (E : Value → Shared → Prop) : Cx := { X with xe := E }
abbrev Cx.nox (X : Cx) : Cx := X.wish fun _ _ => False
theorem Cx.Ok.wish {X : Cx} (ok : X.Ok) (E : Value → Shared → Prop) : (X.wish E).Ok :=
  ⟨ok.mod, ok.kind, ok.glob, ok.blt, ok.above, ok.inj, ok.has, ok.cab, ok.hd, ok.frames, ok.stk, ok.exf, ok.bs, ok.bsz, ok.noex, ok.exfs, ok.funs, ok.frf⟩
theorem Cx.Ok.unwish {X : Cx} {E : Value → Shared → Prop} (ok : (X.wish E).Ok) : X.Ok :=
  ⟨ok.mod, ok.kind, ok.glob, ok.blt, ok.above, ok.inj, ok.has, ok.cab, ok.hd, ok.frames, ok.stk, ok.exf, ok.bs, ok.bsz, ok.noex, ok.exfs, ok.funs, ok.frf⟩
section
variable {X : Cx} {pins : List (Addr × Obj)} {σ : St} {H : Hp} {s : Shared} {E : Value → Shared → Prop}
theorem Inv.wish (I : Inv X pins σ H s) (E : Value → Shared → Prop) : Inv (X.wish E) pins σ H s := ⟨I.ok.wish E, I.os, I.bare, I.base, I.loc, I.cell, I.free, I.freeC, I.pin, I.hok, I.len⟩
theorem Inv.unwish (I : Inv (X.wish E) pins σ H s) : Inv X pins σ H s := ⟨I.ok.unwish, I.os, I.bare, I.base, I.loc, I.cell, I.free, I.freeC, I.pin, I.hok, I.len⟩
theorem SP.unwish {D : qBh} {f : Flow} {s' : Shared} (h : SP (X.wish E) pins D f s') : SP X pins D f s' := by
  cases f with
  | next => obtain ⟨σ', H', I, q⟩ := h; exact ⟨σ', H', I.unwish, q⟩
  | brk => obtain ⟨σ', H', I, q⟩ := h; exact ⟨σ', H', I.unwish, q⟩
  | cont => obtain ⟨σ', H', I, q⟩ := h; exact ⟨σ', H', I.unwish, q⟩
  | ret u => obtain ⟨v, σ', H', I, r, q⟩ := h; exact ⟨v, σ', H', I.unwish, r, q⟩
theorem PE.nox {e : Expr} {t : TE} (h : PE X.nox e t) : PE X e t := fun pins s σ H Q I hw =>
  wpAny_mono (h pins s σ H Q (I.wish _) hw) (fun _ _ ⟨v, H', I', r, q⟩ => ⟨v, H', I'.unwish, r, q⟩) fun _ _ z => False.elim z
theorem PT.nox {e : Expr} {t : TT} (h : PT X.nox e t) : PT X e t := fun pins s σ H Q I hw =>
  wpAny_mono (h pins s σ H Q (I.wish _) hw) (fun _ _ ⟨H', I', q⟩ => ⟨H', I'.unwish, q⟩) fun _ _ z => False.elim z
theorem PSs.nox {st : List Stmt} {t : TS} (h : PSs X.nox st t) : PSs X st t := fun pins s σ H D I hw =>
  wpAny_mono (h pins s σ H D (I.wish _) hw) (fun _ _ q => q.unwish) fun _ _ z => False.elim z
end
section
variable {X : Cx} {st : Stmt} {qBc : List Stmt} {t u : TS} {e : Expr} {te : TE} {pos : Pos}
def qG1 : TS := fun D σ H => D.nx σ H
def qHk (t u : TS) : TS := fun D σ H => t { D with nx := u D } σ H
theorem qU : PSs X [] qG1 := fun _ _ σ H _ I h => wpAny_execs_nil ⟨σ, H, I, h⟩
theorem qF (h1 : PS X st t) (h2 : PSs X qBc u) : PSs X (st :: qBc) (qHk t u) := by
  intro pins s σ H D I h
  refine wpAny_execs_cons (thn (h1 pins s σ H { D with nx := u D } I h) fun f s1 q => ?_)
  cases f with
  | next =>
    obtain ⟨σ', H', I', q⟩ := q
    exact h2 pins s1 σ' H' D I' q
  | ret v => exact q
  | brk => exact q
  | cont => exact q
theorem qH (h1 : PS X st t) : PSs X [st] t := by
  intro pins s σ H D I h
  refine wpAny_execs_cons (thn (h1 pins s σ H D I h) fun f s1 q => ?_)
  cases f with
  | next => exact wpAny_execs_nil q
  | ret v => exact q
  | brk => exact q
  | cont => exact q
theorem Inv.quiet {pins : List (Addr × Obj)} {σ : St} {H : Hp} {s : Shared} (I : Inv X pins σ H s) : interactive X.env = false := by simp [interactive, I.ok.kind]
def qGx (te : TE) : TS := fun D σ H => te σ H fun _ H1 => D.nx σ H1
theorem je (he : PE X e te) (hs : swapsWith e none pos.line X.env = pure false := by rfl) : PS X (.Expr e pos) (qGx te) := by
  intro pins s σ H D I h
  exact wpAny_Expr_any (thn (he pins s σ H _ I h) fun v s1 ⟨x, H1, I1, r1, q1⟩ => ⟨σ, H1, I1, q1⟩) I.quiet hs
def qH5 (te : TE) : TS := fun D σ H => te σ H D.rt
theorem qO (he : PE X e te) : PS X (.Return (some e) pos) (qH5 te) := by
  intro pins s σ H D I h
  exact wpAny_Return_some (thn (he pins s σ H _ I h) fun v s1 ⟨x, H1, I1, r1, q1⟩ => ⟨x, σ, H1, I1, r1, q1⟩)
def qHd (c : TT) (t u : TS) : TS := fun D σ H => c σ H fun b H1 => if b = true then t D σ H1 else u D σ H1
theorem qp {c : Expr} {a b : List Stmt} {tc : TT} (hc : PT X c tc) (ha : PSs X a t) (hb : PSs X b u) : PS X (.If c a b pos) (qHd tc t u) := by
  intro pins s σ H D I h
  refine wpAny_If (thn (hc pins s σ H _ I h) fun d s1 ⟨H1, I1, q1⟩ => ?_)
  cases d with
  | true => exact ha pins s1 σ H1 D I1 q1
  | false => exact hb pins s1 σ H1 D I1 q1
def qFp : TS := fun _ _ _ => False
theorem xM {sts : List Stmt} : PSs X sts qFp := fun _ _ _ _ _ _ h => h.elim
end
abbrev TG := V → St → Hp → (St → Hp → Prop) → Prop
abbrev TGs := List V → St → Hp → (St → Hp → Prop) → Prop
def PG (X : Cx) (target : Expr) (t : TG) : Prop :=
  ∀ (pins : List (Addr × Obj)) (s : Shared) (σ : St) (H : Hp) (v : V) (u : Value) (Q : St → Hp → Prop), Inv X pins σ H s → RelV v u → t v σ H Q →
    wpAny (model X.prog X.w) X.A (assign target X.env u) (fun _ s' => ∃ σ' H', Inv X pins σ' H' s' ∧ Q σ' H') X.xe s
def PGs (X : Cx) (ts : List Expr) (t : TGs) : Prop :=
  ∀ (pins : List (Addr × Obj)) (s : Shared) (σ : St) (H : Hp) (vs : List V) (us : List Value) (Q : St → Hp → Prop), Inv X pins σ H s → Vals vs us → t vs σ H Q →
    wpAny (model X.prog X.w) X.A (assignInOrder ((assignEach ts X.env).map (·.2)) us) (fun _ s' => ∃ σ' H', Inv X pins σ' H' s' ∧ Q σ' H') X.xe s
section
variable {X : Cx} {pos : Pos}
def qA0 (i : Nat) : TG := fun v σ H Q => Q (σ.set i (some v)) H
theorem qo {i : Nat} {x : Str} (hN : X.N.Nodup) (hi : X.N[i]? = some x) (hx : Loc X.env.scope x) (hf : X.fn x = true ∨ X.env.scope.names.lookup x = some .local := by first | exact .inl rfl | exact .inr rfl | assumption) : PG X (.Name x pos) (qA0 i) := by
  intro pins s σ H v u Q I r h
  exact wpAny_assign_Name (xG I hN hi hx r (fun s' I' => ⟨_, H, I', h⟩) hf)
def qG9 : TGs := fun vs σ H Q => vs = [] ∧ Q σ H
def qCx (t : TG) (u : TGs) : TGs := fun vs σ H Q => ∃ v r, vs = v :: r ∧ t v σ H fun σ' H' => u r σ' H' Q
theorem kM : PGs X [] qG9 := by
  intro pins s σ H vs us Q I r h
  obtain ⟨e, h⟩ := h
  subst e
  cases r
  exact assignInOrder_nil ⟨σ, H, I, h⟩
theorem jA {e : Expr} {es : List Expr} {t : TG} {u : TGs} (h1 : PG X e t) (h2 : PGs X es u)
    (hs : (assignEach (e :: es) X.env).map (·.2) = assign e X.env :: (assignEach es X.env).map (·.2) := by rfl) : PGs X (e :: es) (qCx t u) := by
  intro pins s σ H vs us Q I r h
  obtain ⟨v, vr, e1, h⟩ := h
  subst e1
  cases r with
  | cons r rr =>
    rw [hs]
    refine assignInOrder_cons (thn (h1 pins s σ H _ _ _ I r h) fun _ s1 ⟨σ1, H1, I1, q1⟩ => ?_)
    exact h2 pins s1 σ1 H1 _ _ Q I1 rr q1
def qG8 (K : PySem.W.Frag) (n : Nat) (t : TGs) : TG := fun v σ H Q => ∃ a xs, v = .ref a ∧ SqT K H a xs ∧ xs.length = n ∧ t xs σ H Q
theorem qAg {es : List Expr} {k : Nat} {t : TGs} {n : Nat} (hc : X.calm = true) (h : PGs X es t)
    (hn : (assignEach es X.env).length = n := by rfl) (hst : (assignEach es X.env).findIdx? (·.1) = none := by rfl) : PG X (.Tuple es k pos) (qG8 X.K n t) := by
  intro pins s σ H v u Q I r hw
  obtain ⟨a, xs, e1, hq, hl, hw⟩ := hw
  subst e1
  cases r
  obtain ⟨its, rv, ht, hz⟩ := I.tuple hq
  refine assign_Tuple_tuple (I.ok.hd hc) ht (by simp [hn, ← hl, rv.length]) hst fun h' hx => ?_
  have I1 : Inv X pins σ H { s with heap := h' } := I.kept (t' := s.toks) fun b o e => hx b o (Nat.ne_of_lt (Heap.lt_size e)) e
  exact h pins _ σ H xs _ Q I1 (by simpa using rv) hw
def qGs (te : TE) (g : TG) : TS := fun D σ H => te σ H fun x H1 => g x σ H1 D.nx
theorem qD2 {tg e : Expr} {te : TE} {g : TG} (he : PE X e te) (hg : PG X tg g) (hs : swapsWithSole [tg] e pos.line X.env = pure false := by rfl) (hw : swappedStores [tg] e X.env = pure none := by rfl)
    (h1 : (assignEach [tg] X.env).map (·.2) = [assign tg X.env] := by rfl) : PS X (.Assign [tg] e pos) (qGs te g) := by
  intro pins s σ H D I h
  refine wpAny_Assign_stores (thn (he pins s σ H _ I h) fun v s1 ⟨x, H1, I1, r1, q1⟩ => ?_) hs hw
  rw [h1]
  exact thn (hg pins s1 σ H1 x v _ I1 r1 q1) fun _ s2 q => q
theorem qX {i : Nat} {x : Str} {e : Expr} {te : TE} {pos' : Pos} (hN : X.N.Nodup) (hi : X.N[i]? = some x) (hx : Loc X.env.scope x) (he : PE X e te) (hs : swapsWith e (some (.Name x pos')) pos.line X.env = pure false := by rfl) (hf : X.fn x = true ∨ X.env.scope.names.lookup x = some .local := by first | exact .inl rfl | exact .inr rfl | assumption) :
    PS X (.Assign [.Name x pos'] e pos) (qGs te (qA0 i)) := by
  intro pins s σ H D I h
  refine wpAny_Assign_Name (thn (he pins s σ H _ I h) fun v s1 ⟨y, H1, I1, r1, q1⟩ => ?_) hs
  exact xG I1 hN hi hx r1 (fun s2 I2 => ⟨_, H1, I2, q1⟩) hf
def qHy (i j : Nat) (ta : TA) : TS := fun D σ H => ta σ H fun vs H1 => ∃ v w, vs = [v, w] ∧ D.nx ((σ.set i (some v)).set j (some w)) H1
theorem qFo {i j : Nat} {x y : Str} {a b : Expr} {ta : TA} {px py pt : Pos} {kt k2 pt2} (hc : X.calm = true) (hN : X.N.Nodup) (hi : X.N[i]? = some x) (hj : X.N[j]? = some y) (hij : i ≠ j)
    (hx : X.env.scope.names.lookup x = some .local) (hy : X.env.scope.names.lookup y = some .local) (ha : PA X [a, b] ta)
    (hw : swappedStores [.Tuple [.Name x px, .Name y py] kt pt] (.Tuple [a, b] k2 pt2) X.env = pure (some [x, y]))
    (hs : swapsWithSole [.Tuple [.Name x px, .Name y py] kt pt] (.Tuple [a, b] k2 pt2) pos.line X.env = pure false := by rfl) :
    PS X (.Assign [.Tuple [.Name x px, .Name y py] kt pt] (.Tuple [a, b] k2 pt2) pos) (qHy i j ta) := by
  intro pins s σ H D I h
  rw [exec_Assign_arm]
  refine wpAny_bind (wpAny_standAt ?_)
  rw [hs]
  refine wpAny_bind (wpAny_pure ?_)
  rw [if_neg (by decide)]
  refine wpAny_bind (Tuple_ (thn (ha _ pins s σ H _ I h) fun us s1 ⟨vs, H1, I1, r1, q1⟩ => ?_))
  obtain ⟨v, w, e1, q1⟩ := q1
  subst e1
  obtain ⟨u1, u2, rfl, rv, rw'⟩ : ∃ u1 u2, us = [u1, u2] ∧ RelV v u1 ∧ RelV w u2 := by
    cases r1 with
    | cons p q =>
      cases q with
      | cons p' q' =>
        cases q'
        exact ⟨_, _, rfl, p, p'⟩
  refine wpAny_newObj_type ?_ (by show 2 ≤ sizeLine; decide)
  have I2 : Inv X pins σ H1 { s1 with heap := s1.heap.push { cls := .type "tuple", data := .seq [u1, u2].toArray } } := I1.kept (t' := s1.toks) fun b o e => Heap.get?_push_of_some _ e
  rw [hw]
  refine wpAny_bind (wpAny_pure ?_)
  show wpAny (model X.prog X.w) X.A (do rule "assign.swapped-stores"; let items ← unpackItems (.ref s1.heap.objs.size) 2 none; assignInOrder [fun v => bindName X.env y v, fun v => bindName X.env x v] items.reverse; pure Flow.next) _ _ _
  refine wpAny_bind (wpAny_rule (wpAny_bind (unpackItems_tuple (items := #[u1, u2]) (I.ok.hd hc) (IsTup.new s1.heap _) fun h' hx' => ?_)))
  have I3 := I2.kept (h' := h') (t' := s1.toks) fun b o e => hx' b o (Nat.ne_of_lt (Heap.lt_size e)) e
  show wpAny _ _ (assignInOrder [fun v => bindName X.env y v, fun v => bindName X.env x v] [u2, u1] >>= fun _ => pure Flow.next) _ _ _
  refine wpAny_bind (assignInOrder_cons (wpAny_bindName (xG I3 hN hj (.inl hy) rw' (fun s2 I4 => ?_) (.inr hy))))
  refine assignInOrder_cons (wpAny_bindName (xG I4 hN hi (.inl hx) rv (fun s3 I5 => assignInOrder_nil (wpAny_pure ?_)) (.inr hx)))
  rw [List.set_comm _ _ (Ne.symm hij)] at I5
  exact ⟨_, H1, I5, q1⟩
end
section
variable {X : Cx} {pos : Pos}
def qDz (c : TT) (tb : TS) : TS := fun D σ H => ∃ W : Nat → St → Hp → Prop, (∃ m, W m σ H) ∧ ∀ m σ H, W m σ H →
  c σ H fun b H1 => if b = true then ∃ N : St → Hp → Prop, (∀ σ' H', N σ' H' → ∃ m', m' < m ∧ W m' σ' H') ∧ tb { D with nx := N, ct := N, bk := D.nx } σ H1 else D.nx σ H1
theorem qAh {c : Expr} {body : List Stmt} {tc : TT} {tb : TS} (hp : PassesOwn (model X.prog X.w) X.A X.env X.xe) (hc : PT X c tc) (hb : PSs X body tb) : PS X (.While c body [] pos) (qDz tc tb) := by
  intro pins s σ H D I h
  obtain ⟨W, ⟨m0, w0⟩, turn⟩ := h
  refine wpAny_While (codeAny_whileLoop (fun n s' => ∃ σ' H', Inv X pins σ' H' s' ∧ W n σ' H') ?_ m0 ⟨σ, H, I, w0⟩)
  rintro n s1 ⟨σ1, H1, I1, w1⟩
  refine wpAny_passesOwn hp (thn (hc pins s1 σ1 H1 _ I1 (turn n σ1 H1 w1)) fun b s2 ⟨H2, I2, q2⟩ => ?_)
  cases b with
  | true =>
    obtain ⟨N, hN, q2⟩ := q2
    rw [if_pos rfl]
    refine wpAny_passesOwn hp (thn (hb pins s2 σ1 H2 _ I2 q2) fun f s3 q3 => ?_)
    cases f with
    | next =>
      obtain ⟨σ3, H3, I3, n3⟩ := q3
      obtain ⟨m', hm, w3⟩ := hN σ3 H3 n3
      exact ⟨m', hm, σ3, H3, I3, w3⟩
    | cont =>
      obtain ⟨σ3, H3, I3, n3⟩ := q3
      obtain ⟨m', hm, w3⟩ := hN σ3 H3 n3
      exact ⟨m', hm, σ3, H3, I3, w3⟩
    | brk => exact q3
    | ret v => exact q3
  | false =>
    rw [if_neg Bool.false_ne_true]
    exact wpAny_execs_nil ⟨σ1, H2, I2, q2⟩
end
structure It where
  go : Nat → Hp → Prop
  yld : Nat → Hp → V → Hp → Prop
  stop : Nat → Hp → Prop
def qB8 (X : Cx) (pins : List (Addr × Obj)) (H : Hp) (b : Addr) : Prop :=
  H b = none ∧ b ≠ X.env.locals ∧ b ∉ X.fs ∧ (b ∈ X.ex ∨ X.s₀.heap.objs.size ≤ b) ∧ (∀ x c, X.env.cells.lookup x = some c → c ≠ b) ∧ ∀ p ∈ X.pn ++ pins, p.1 ≠ b
theorem Inv.fpOk {X : Cx} {pins : List (Addr × Obj)} {σ : St} {H H' : Hp} {s : Shared} {b : Addr} (I : Inv X pins σ H s) (hb : s.heap.objs.size ≤ b) (hn : H' b = none) : qB8 X pins H' b := by
  refine ⟨hn, Nat.ne_of_gt (Nat.lt_of_lt_of_le I.lt hb), I.nofs hb, .inr (Nat.le_trans I.sz hb), fun x c e z => ?_, fun p hp z => ?_⟩
  · obtain ⟨v, q⟩ := I.cell x c e
    exact absurd (Nat.lt_of_lt_of_le q.lt (by rw [z]; exact hb)) (Nat.lt_irrefl _)
  · exact absurd (Nat.lt_of_lt_of_le (Heap.lt_size (I.pin p hp).1) (by rw [z]; exact hb)) (Nat.lt_irrefl _)
structure qF8 (P : Program) (w : World) (K : PySem.W.Frag) (tg : Expr) (J : It) (fp : List Addr) (it : Addr) (tn : Nat → Heap → Prop) : Prop where
  mem : it ∈ fp
  obj : ∀ i h, tn i h → ∀ b ∈ fp, ∃ o, h.get? b = some o ∧ ∀ v, o.data ≠ .cell v
  keep : ∀ i h h', tn i h → (∀ b ∈ fp, ∀ o, h.get? b = some o → h'.get? b = some o) → tn i h'
  item : ∀ (X : Cx), X.prog = P → X.w = w → X.K = K → X.calm = true → ∀ (i : Nat) (pins : List (Addr × Obj)) (s : Shared) (σ : St) (H : Hp) (E : Value → Shared → Prop), Inv X pins σ H s → (∀ b ∈ fp, qB8 X pins H b) → tn i s.heap → J.go i H →
    wpAny (model P w) X.A (pyNext (.ref it)) (fun r s1 => ∃ u, r = some u ∧
      wpAny (model P w) X.A (letOwnedTupleGo tg (.ref it) u) (fun _ s2 => ∃ x H', Inv X pins σ H' s2 ∧ RelV x u ∧ J.yld i H x H' ∧ tn (i + 1) s2.heap ∧ ∀ b ∈ fp, H' b = none) E s1) E s
  done : ∀ (X : Cx), X.prog = P → X.w = w → X.K = K → X.calm = true → ∀ (i : Nat) (pins : List (Addr × Obj)) (s : Shared) (σ : St) (H : Hp) (E : Value → Shared → Prop), Inv X pins σ H s → (∀ b ∈ fp, qB8 X pins H b) → tn i s.heap → J.stop i H →
    wpAny (model P w) X.A (pyNext (.ref it)) (fun r s1 => r = none ∧ Inv X pins σ H s1) E s
  self : ∀ (A : Around) (i : Nat) (s : Shared) (Q : Value → Shared → Prop) (E : Value → Shared → Prop), tn i s.heap → Q (.ref it) s → wpAny (model P w) A (pyIter (.ref it)) Q E s
abbrev TI := St → Hp → (It → Hp → Prop) → Prop
def PIE (X : Cx) (pins : List (Addr × Obj)) (σ : St) (tg : Expr) (R : It → Hp → Prop) (itv : Value) (s2 : Shared) : Prop :=
  ∃ (it : Addr) (fp : List Addr) (tn : Nat → Heap → Prop) (J : It) (H' : Hp), itv = .ref it ∧ Inv X pins σ H' s2 ∧ qF8 X.prog X.w X.K tg J fp it tn ∧ tn 0 s2.heap ∧ (∀ b ∈ fp, qB8 X pins H' b) ∧ R J H'
def PI (X : Cx) (tg iter : Expr) (wi : TI) : Prop :=
  ∀ (pins : List (Addr × Obj)) (s : Shared) (σ : St) (H : Hp) (R : It → Hp → Prop), Inv X pins σ H s → wi σ H R →
    wpAny (model X.prog X.w) X.A (eval iter X.env) (fun v s1 => wpAny (model X.prog X.w) X.A (pyIter v) (PIE X pins σ tg R) X.xe s1) X.xe s
theorem qEy {M : Model} {A : Around} {E : Value → Shared → Prop} {s : Shared} {tg : Expr} {it : Addr} {u : Value} {o : Obj} {n : String} {vs : Array Value} {Q : Unit → Shared → Prop} (ho : s.heap.get? it = some o) (hc : o.cls = .type n) (hd : o.data = .fields vs)
    (hn : ["enumerate", "zip", "dict_itemiterator", "dict_reverseitemiterator", "odict_iterator", "itertools.zip_longest", "itertools.pairwise"].contains n = false) (hQ : Q () s) : wpAny M A (letOwnedTupleGo tg (.ref it) u) Q E s := by
  unfold letOwnedTupleGo
  cases tg <;> first
    | exact wpAny_pure hQ
    | (cases u <;> first
        | exact wpAny_pure hQ
        | (refine wpAny_bind (wpAny_load ho ?_)
           rw [hc, hd]
           show wpAny M A (if (["enumerate", "zip", "dict_itemiterator", "dict_reverseitemiterator", "odict_iterator", "itertools.zip_longest", "itertools.pairwise"].contains n && vs[0]? == some (rawInt _)) = true then _ else _) Q E s
           rw [if_neg (by intro h; rw [hn, Bool.false_and] at h; cases h)]
           exact wpAny_pure hQ))
def Itl (K : PySem.W.Frag) (a : Addr) : It :=
  ⟨fun i H => ∃ xs x, SqL K H a xs ∧ xs[i]? = some x, fun i H x H' => H' = H ∧ ∀ xs, SqL K H a xs → xs[i]? = some x, fun i H => ∃ xs, SqL K H a xs ∧ xs.length ≤ i⟩
def Itr (lo : Int) (n : Nat) : It := ⟨fun i _ => i < n, fun i H x H' => H' = H ∧ x = .int (lo + i), fun i _ => n ≤ i⟩
theorem qBp {P : Program} {w : World} {K : PySem.W.Frag} {tg : Expr} (a it : Addr) : qF8 P w K tg (Itl K a) [it] it (fun i h => h.IsListIter it a i) where
  mem := by simp
  obj := fun i h st b hb => by
    have e : b = it := by simpa using hb
    subst e
    obtain ⟨o, e, c, d⟩ := st
    exact ⟨o, e, fun v z => by rw [d] at z; cases z⟩
  keep := fun i h h' st k => st.at fun o e => k it (by simp) o e
  item := by
    intro X hP hw hK hc i pins s σ H E I hf st hg
    subst hP hw hK
    obtain ⟨xs, x, hq, hx⟩ := hg
    obtain ⟨its, rv, p, hz⟩ := I.list hq
    obtain ⟨u, hu, ru⟩ := rv.get hx
    obtain ⟨f0, f1, f2, f3, f4, f5⟩ := hf it (by simp)
    refine wpAny_pyNext_list_item st p.isList (x := u) (by simpa using hu) fun h' st' sb => ?_
    have I1 : Inv X pins σ H { s with heap := h' } := I.turned (t' := s.toks) (fun b o hb e => (sb.2 b hb).trans e) f0 f1 f3 f4 f5
    obtain ⟨o, e, c, d⟩ := id st'
    exact ⟨u, rfl, qEy (s := { s with heap := h' }) e c d (by decide) ⟨x, H, I1, ru, ⟨rfl, fun ys hy => by rw [I.list_inj hy hq]; exact hx⟩, st', fun b hb => (hf b hb).1⟩⟩
  done := by
    intro X hP hw hK hc i pins s σ H E I hf st hg
    subst hP hw hK
    obtain ⟨xs, hq, hx⟩ := hg
    obtain ⟨its, rv, p, hz⟩ := I.list hq
    obtain ⟨f0, f1, f2, f3, f4, f5⟩ := hf it (by simp)
    have hl := rv.length
    exact wpAny_pyNext_list_end (I.ok.hd hc) st p.isList (by simp; omega) fun h' eb => ⟨rfl, I.turned (t' := s.toks) (fun b o hb e => eb b o hb e) f0 f1 f3 f4 f5⟩
  self := fun _ _ _ _ _ st h => wpAny_pyIter_listiter st h
theorem qA8 {P : Program} {w : World} {K : PySem.W.Frag} {tg : Expr} (it : Addr) (lo : Int) (n : Nat) : qF8 P w K tg (Itr lo n) [it] it (fun i h => IsRangeIter h it (lo + (i : Nat) * 1) ((n : Int) - (i : Nat)) 1) where
  mem := by simp
  obj := fun i h st b hb => by
    have e : b = it := by simpa using hb
    subst e
    exact ⟨_, st, fun v z => by
      have z' : Data.fields _ = Data.cell v := z
      cases z'⟩
  keep := fun i h h' st k => k it (by simp) _ st
  item := by
    intro X hP hw hK hc i pins s σ H E I hf st hg
    subst hP hw hK
    obtain ⟨f0, f1, f2, f3, f4, f5⟩ := hf it (by simp)
    have W := Walks.range (prog := X.prog) (w := X.w) (I.ok.hd hc) it lo 1 n
    refine W.item i s _ _ hg st fun v h' tk hv st' kk => ?_
    obtain ⟨t, rfl⟩ := hv
    have I1 : Inv X pins σ H { s with heap := h', toks := tk } := I.turned (fun b o hb e => kk b o (by simpa using hb) e) f0 f1 f3 f4 f5
    refine ⟨_, rfl, qEy (s := { s with heap := h', toks := tk }) (n := "range_iterator") st' rfl rfl (by decide) ⟨.int (lo + i), H, I1, ⟨t, ?_⟩, ⟨rfl, rfl⟩, st', fun b hb => (hf b hb).1⟩⟩
    rw [Int.mul_one]
  done := by
    intro X hP hw hK hc i pins s σ H E I hf st hg
    subst hP hw hK
    obtain ⟨f0, f1, f2, f3, f4, f5⟩ := hf it (by simp)
    exact wpAny_pyNext_range_end (I.ok.hd hc) st (by have : n ≤ i := hg; omega) fun h' eb => ⟨rfl, I.turned (t' := s.toks) (fun b o hb e => eb b o hb e) f0 f1 f3 f4 f5⟩
  self := fun _ _ _ _ _ st h => wpAny_pyIter_rangeiter st h
end L2
namespace L2
open PySem PySem.Spec PyProof.Rows
section
variable {X : Cx} {tg : Expr}
def qGz (K : PySem.W.Frag) (tl : TE) : TI := fun σ H R => tl σ H fun x H1 => ∃ a, x = .ref a ∧ (∃ xs, SqL K H1 a xs) ∧ R (Itl K a) H1
theorem xx {l : Expr} {tl : TE} (hl : PE X l tl) : PI X tg l (qGz X.K tl) := by
  intro pins s σ H R I h
  refine thn (hl pins s σ H _ I h) fun v s1 ⟨x, H1, I1, r1, q1⟩ => ?_
  obtain ⟨a, e, ⟨xs, hq⟩, q⟩ := q1
  subst e
  cases r1
  obtain ⟨its, rv, p, hz⟩ := I1.list hq
  refine wpAny_pyIter_list p.isList ?_
  refine ⟨s1.heap.objs.size, [s1.heap.objs.size], _, _, H1, rfl, I1.kept (t' := s1.toks) fun b o e => Heap.get?_push_of_some _ e, qBp a _, ⟨_, Heap.get?_push_size _ rfl, rfl, rfl⟩, fun b hb => ?_, q⟩
  have e : b = s1.heap.objs.size := by simpa using hb
  subst e
  exact I1.fpOk (Nat.le_refl _) (I1.hok.fresh (Nat.le_refl _))
theorem qDj {pins : List (Addr × Obj)} {σ : St} {H : Hp} {s : Shared} {R : It → Hp → Prop} {E : Value → Shared → Prop} {lo hi : Int} {t u v : Tok} {tk : Nat} (I : Inv X pins σ H s) (h1 : -(2 ^ 62) ≤ lo) (h2 : lo < 2 ^ 62) (h3 : -(2 ^ 62) ≤ hi) (h4 : hi < 2 ^ 62)
    (q : R (Itr lo (hi - lo).toNat) H) : wpAny (model X.prog X.w) X.A (pyIter (.ref s.heap.objs.size)) (PIE X pins σ tg R) E { s with heap := s.heap.push { cls := .type "range", data := .fields #[.int lo t, .int hi u, .int 1 v] }, toks := tk } := by
  refine wpAny_pyIter_range (IsRange.new ..) (small_one h1 h2 h3 h4) ?_
  have I1 : Inv X pins σ H { s with heap := s.heap.push { cls := .type "range", data := .fields #[.int lo t, .int hi u, .int 1 v] }, toks := tk } := I.kept fun b o e => Heap.get?_push_of_some _ e
  refine ⟨(s.heap.push { cls := .type "range", data := .fields #[.int lo t, .int hi u, .int 1 v] }).objs.size, [(s.heap.push { cls := .type "range", data := .fields #[.int lo t, .int hi u, .int 1 v] }).objs.size], _, _, H, rfl,
    I1.kept (t' := tk) fun b o e => Heap.get?_push_of_some _ e, qA8 _ lo (hi - lo).toNat, ?_, fun b hb => ?_, q⟩
  · have e1 : lo + ((0 : Nat) : Int) * 1 = lo := by simp
    have e2 : (((hi - lo).toNat : Nat) : Int) - ((0 : Nat) : Int) = Builtin.Range.rangeSize lo hi 1 := by rw [rangeSize_one]; split <;> omega
    show IsRangeIter _ _ (lo + ((0 : Nat) : Int) * 1) ((((hi - lo).toNat : Nat) : Int) - ((0 : Nat) : Int)) 1
    rw [e1, e2]
    exact Heap.get?_push_size _ rfl
  · have e : b = (s.heap.push { cls := .type "range", data := .fields #[.int lo t, .int hi u, .int 1 v] }).objs.size := by simpa using hb
    subst e
    exact I1.fpOk (Nat.le_refl _) (I1.hok.fresh (Nat.le_refl _))
def qGh (ta : TA) : TI := fun σ H R => ta σ H fun vs H1 => ∃ j : Int, vs = [.int j] ∧ -(2 ^ 62) ≤ j ∧ j < 2 ^ 62 ∧ R (Itr 0 j.toNat) H1
theorem x9 {a : Expr} {ta : TA} {p pos : Pos} (hg : Gl X "range") (hm : X.mg "range" = none) (ha : PA X [a] ta) (hs : starEach [a] X.env = [(false, eval a X.env)] := by rfl) : PI X tg (.Call (.Name "range" p) [a] [] pos) (qGh ta) := by
  intro pins s σ H R I h
  refine Call_ (wO I hg hm boot_range (PyProof.Rows.callWith_type1 (thn (ha pos pins s σ H _ I h) fun us s1 ⟨vs, H1, I1, r1, q1⟩ => ?_) hs rfl))
  obtain ⟨j, e, q1, q2, q⟩ := q1
  subst e
  cases r1 with
  | cons r rr =>
    cases rr
    obtain ⟨t, rfl⟩ := r
    exact call_range_1 (qDj I1 (by omega) (by omega) q1 q2 (by simpa using q))
def qH0 (wi : TI) (g : TG) (tb : TS) : TS := fun D σ H => wi σ H fun J H1 => ∃ W : Nat → Nat → St → Hp → Prop, (∃ m, W 0 m σ H1) ∧ ∀ i m σ H, W i m σ H →
  (J.stop i H ∧ D.nx σ H) ∨ (J.go i H ∧ ∃ N : St → Hp → Prop, (∀ σ' H', N σ' H' → ∃ m', m' < m ∧ W (i + 1) m' σ' H') ∧ ∀ x H', J.yld i H x H' → g x σ H' fun σ2 H2 => tb { D with nx := N, ct := N, bk := D.nx } σ2 H2)
def kj (fp : List Addr) (h : Heap) : List (Addr × Obj) := fp.filterMap fun b => (h.get? b).map fun o => (b, o)
theorem xP {fp : List Addr} {h : Heap} {b : Addr} {o : Obj} (hb : b ∈ fp) (e : h.get? b = some o) : (b, o) ∈ kj fp h := List.mem_filterMap.mpr ⟨b, hb, by rw [e]; rfl⟩
theorem qBw {fp : List Addr} {h : Heap} {p : Addr × Obj} (hp : p ∈ kj fp h) : p.1 ∈ fp ∧ h.get? p.1 = some p.2 := by
  obtain ⟨b, hb, e⟩ := List.mem_filterMap.mp hp
  cases q : h.get? b with
  | none => rw [q] at e; cases e
  | some o =>
    rw [q] at e
    have e' : (b, o) = p := Option.some.inj e
    subst e'
    exact ⟨hb, q⟩
theorem Inv.pinned {pins : List (Addr × Obj)} {σ : St} {H : Hp} {s : Shared} {fp : List Addr} (I : Inv X pins σ H s) (hf : ∀ b ∈ fp, qB8 X pins H b) (ho : ∀ b ∈ fp, ∃ o, s.heap.get? b = some o ∧ ∀ v, o.data ≠ .cell v) : Inv X (pins ++ kj fp s.heap) σ H s :=
  I.pins_of fun p hp => (List.mem_append.mp hp).elim (fun z => I.pin p (List.mem_append_right _ z)) fun z => by
    obtain ⟨hb, e⟩ := qBw z
    obtain ⟨f0, f1, f2, _⟩ := hf p.1 hb
    obtain ⟨o, e', d⟩ := ho p.1 hb
    rw [e] at e'; cases e'
    exact ⟨e, f0, f1, f2, d⟩
theorem Inv.unpinned {pins pl : List (Addr × Obj)} {σ : St} {H : Hp} {s : Shared} (I : Inv X (pins ++ pl) σ H s) : Inv X pins σ H s := I.pins_of fun p hp => I.pin p (List.mem_append_right _ (List.mem_append_left _ hp))
theorem zG {iter : Expr} {body : List Stmt} {wi : TI} {g : TG} {tb : TS} {pos : Pos} (hp : PassesOwn (model X.prog X.w) X.A X.env X.xe) (hc : X.calm = true) (hi : PI X tg iter wi) (hg : PG X tg g) (hb : PSs X body tb)
    (hs : ∀ x, foldedSetIterable iter X.env x = pure x := by intro _; rfl) : PS X (.For tg iter body [] pos) (qH0 wi g tb) := by
  intro pins s σ H D I h
  refine wpAny_For (thn (hi pins s σ H _ I h) fun v s1 h1 => thn h1 fun itv s2 h2 => ?_) hs
  obtain ⟨it, fp, tn, J, H2, e, I2, T, st2, f2, W, ⟨m0, w0⟩, turn⟩ := h2
  subst e
  have stat : ∀ {H' : Hp}, (∀ b ∈ fp, H' b = none) → ∀ b ∈ fp, qB8 X pins H' b := fun hn b hb => ⟨hn b hb, (f2 b hb).2⟩
  refine codeAny_forLoop_any (fun n s' => ∃ i σ' H', Inv X pins σ' H' s' ∧ tn i s'.heap ∧ (∀ b ∈ fp, H' b = none) ∧ W i n σ' H') ?_ m0 ⟨0, σ, H2, I2, st2, fun b hb => (f2 b hb).1, w0⟩
  rintro n s3 ⟨i, σ3, H3, I3, st3, fr3, w3⟩
  rcases turn i n σ3 H3 w3 with ⟨stop, qn⟩ | ⟨go, N, hN, step⟩
  · refine wpAny_passesOwn hp (thn (T.done X rfl rfl rfl hc i pins s3 σ3 H3 X.xe I3 (stat fr3) st3 stop) fun r s4 ⟨hr, I4⟩ => ?_)
    subst hr
    exact wpAny_execs_nil ⟨σ3, H3, I4, qn⟩
  · refine wpAny_passesOwn hp (thn (T.item X rfl rfl rfl hc i pins s3 σ3 H3 X.xe I3 (stat fr3) st3 go) fun r s4 ⟨u, hr, h4⟩ => ?_)
    subst hr
    refine wpAny_passesOwn hp (thn h4 fun _ s5 ⟨x, H5, I5, r5, y5, st5, fr5⟩ => ?_)
    have I5' := I5.pinned (stat fr5) (T.obj _ _ st5)
    refine wpAny_passesOwn hp (thn (hg _ s5 σ3 H5 x u _ I5' r5 (step x H5 y5)) fun _ s6 ⟨σ6, H6, I6, q6⟩ => ?_)
    refine wpAny_passesOwn hp (thn (hb _ s6 σ6 H6 _ I6 q6) fun f s7 q7 => ?_)
    have again : ∀ {σ7 : St} {H7 : Hp}, Inv X (pins ++ kj fp s5.heap) σ7 H7 s7 → N σ7 H7 → ∃ m, m < n ∧ ∃ i σ' H', Inv X pins σ' H' s7 ∧ tn i s7.heap ∧ (∀ b ∈ fp, H' b = none) ∧ W i m σ' H' := fun {σ7 H7} I7 n7 => by
      obtain ⟨m', hm, w7⟩ := hN σ7 H7 n7
      refine ⟨m', hm, i + 1, σ7, H7, I7.unpinned, T.keep _ _ _ st5 fun b hb o e => (I7.pin (b, o) (List.mem_append_right _ (List.mem_append_right _ (xP hb e)))).1, fun b hb => ?_, w7⟩
      obtain ⟨o, e, d⟩ := T.obj _ _ st5 b hb
      exact (I7.pin (b, o) (List.mem_append_right _ (List.mem_append_right _ (xP hb e)))).2.1
    cases f with
    | next => obtain ⟨σ7, H7, I7, n7⟩ := q7; exact again I7 n7
    | cont => obtain ⟨σ7, H7, I7, n7⟩ := q7; exact again I7 n7
    | brk => obtain ⟨σ7, H7, I7, q7⟩ := q7; exact ⟨σ7, H7, I7.unpinned, q7⟩
    | ret v => obtain ⟨x7, σ7, H7, I7, r7, q7⟩ := q7; exact ⟨x7, σ7, H7, I7.unpinned, r7, q7⟩
end
theorem vD {K : PySem.W.Frag} {a : Addr} {xs : List V} {g : TG} {tb : TS} {D : qBh} {σ : St} {H : Hp} (Pv : Nat → St → Hp → Prop) (h0 : Pv 0 σ H) (hl : ∀ i σ H, i ≤ xs.length → Pv i σ H → SqL K H a xs)
    (hs : ∀ i x σ H, xs[i]? = some x → Pv i σ H → g x σ H fun σ2 H2 => tb { D with nx := Pv (i + 1), ct := Pv (i + 1), bk := D.nx } σ2 H2) (hd : ∀ σ H, Pv xs.length σ H → D.nx σ H) :
    ∃ W : Nat → Nat → St → Hp → Prop, (∃ m, W 0 m σ H) ∧ ∀ i m σ H, W i m σ H →
      ((Itl K a).stop i H ∧ D.nx σ H) ∨ ((Itl K a).go i H ∧ ∃ N : St → Hp → Prop, (∀ σ' H', N σ' H' → ∃ m', m' < m ∧ W (i + 1) m' σ' H') ∧ ∀ x H', (Itl K a).yld i H x H' → g x σ H' fun σ2 H2 => tb { D with nx := N, ct := N, bk := D.nx } σ2 H2) := by
  refine ⟨fun i m σ H => m = xs.length - i ∧ i ≤ xs.length ∧ Pv i σ H, ⟨xs.length, by simp, Nat.zero_le _, h0⟩, ?_⟩
  rintro i m σ H ⟨rfl, hi, p⟩
  have q := hl i σ H hi p
  by_cases hlt : i < xs.length
  · refine .inr ⟨⟨xs, xs[i], q, by simp [hlt]⟩, Pv (i + 1), fun σ' H' p' => ⟨xs.length - (i + 1), by omega, rfl, hlt, p'⟩, fun x H' y => ?_⟩
    obtain ⟨e, y⟩ := y
    subst e
    exact hs i x σ _ (y xs q) p
  · have e : i = xs.length := by omega
    subst e
    exact .inl ⟨⟨xs, q, Nat.le_refl _⟩, hd σ H p⟩
theorem zA {lo : Int} {n : Nat} {g : TG} {tb : TS} {D : qBh} {σ : St} {H : Hp} (Pv : Nat → St → Hp → Prop) (h0 : Pv 0 σ H)
    (hs : ∀ i σ H, i < n → Pv i σ H → g (.int (lo + i)) σ H fun σ2 H2 => tb { D with nx := Pv (i + 1), ct := Pv (i + 1), bk := D.nx } σ2 H2) (hd : ∀ σ H, Pv n σ H → D.nx σ H) :
    ∃ W : Nat → Nat → St → Hp → Prop, (∃ m, W 0 m σ H) ∧ ∀ i m σ H, W i m σ H →
      ((Itr lo n).stop i H ∧ D.nx σ H) ∨ ((Itr lo n).go i H ∧ ∃ N : St → Hp → Prop, (∀ σ' H', N σ' H' → ∃ m', m' < m ∧ W (i + 1) m' σ' H') ∧ ∀ x H', (Itr lo n).yld i H x H' → g x σ H' fun σ2 H2 => tb { D with nx := N, ct := N, bk := D.nx } σ2 H2) := by
  refine ⟨fun i m σ H => m = n - i ∧ i ≤ n ∧ Pv i σ H, ⟨n, by simp, Nat.zero_le _, h0⟩, ?_⟩
  rintro i m σ H ⟨rfl, hi, p⟩
  by_cases hlt : i < n
  · refine .inr ⟨hlt, Pv (i + 1), fun σ' H' p' => ⟨n - (i + 1), by omega, rfl, hlt, p'⟩, fun x H' y => ?_⟩
    obtain ⟨e, y⟩ := y
    subst e y
    exact hs i σ _ hlt p
  · have e : i = n := by omega
    subst e
    exact .inl ⟨Nat.le_refl _, hd σ H p⟩
theorem qAd {c : TT} {tb : TS} {D : qBh} {σ : St} {H : Hp} (Pv : St → Hp → Prop) (μ : St → Hp → Nat) (h0 : Pv σ H)
    (hs : ∀ σ H, Pv σ H → c σ H fun b H1 => if b = true then tb { D with nx := fun σ' H' => Pv σ' H' ∧ μ σ' H' < μ σ H, ct := fun σ' H' => Pv σ' H' ∧ μ σ' H' < μ σ H, bk := D.nx } σ H1 else D.nx σ H1)
    (mono : ∀ σ H Q Q', (∀ b H1, Q b H1 → Q' b H1) → c σ H Q → c σ H Q') : qDz c tb D σ H := by
  refine ⟨fun m σ H => m = μ σ H ∧ Pv σ H, ⟨_, rfl, h0⟩, ?_⟩
  rintro m σ H ⟨rfl, p⟩
  refine mono σ H _ _ (fun b H1 q => ?_) (hs σ H p)
  cases b with
  | true => exact ⟨_, fun σ' H' ⟨p', l⟩ => ⟨_, l, rfl, p'⟩, q⟩
  | false => exact q
end L2
namespace L2
open PySem PySem.Spec PyProof.Rows
abbrev R2 := V → V → Hp → VK → Prop
def OpR (X : Cx) (f : Value → Value → Sem Value) (r : R2) : Prop :=
  ∀ (pins : List (Addr × Obj)) (s : Shared) (σ : St) (H : Hp) (x y : V) (v u : Value) (Q : VK), Inv X pins σ H s → RelV x v → RelV y u → r x y H Q →
    wpAny (model X.prog X.w) X.A (f v u) (EP X pins σ Q) X.xe s
def UnR (X : Cx) (f : Value → Sem Value) (r : V → Hp → VK → Prop) : Prop :=
  ∀ (pins : List (Addr × Obj)) (s : Shared) (σ : St) (H : Hp) (x : V) (v : Value) (Q : VK), Inv X pins σ H s → RelV x v → r x H Q →
    wpAny (model X.prog X.w) X.A (f v) (EP X pins σ Q) X.xe s
def CallR (X : Cx) (f : Value) (r : List V → Hp → VK → Prop) : Prop :=
  ∀ (pins : List (Addr × Obj)) (s : Shared) (σ : St) (H : Hp) (xs : List V) (us : List Value) (Q : VK), Inv X pins σ H s → Vals xs us → r xs H Q →
    wpAny (model X.prog X.w) X.A (call f us) (EP X pins σ Q) X.xe s
def tOp (r : R2) (ta tb : TE) : TE := fun σ H Q => ta σ H fun x H1 => tb σ H1 fun y H2 => r x y H2 Q
def tUn (r : V → Hp → VK → Prop) (ta : TE) : TE := fun σ H Q => ta σ H fun x H1 => r x H1 Q
def rI (C : Int → Int → Prop) (g : Int → Int → V) : R2 := fun x y H Q => ∃ i j, x = .int i ∧ y = .int j ∧ C i j ∧ Q (g i j) H
def rI0 (g : Int → Int → V) : R2 := fun x y H Q => ∃ i j, x = .int i ∧ y = .int j ∧ Q (g i j) H
def rU (g : Int → V) : V → Hp → VK → Prop := fun x H Q => ∃ i, x = .int i ∧ Q (g i) H
section
variable {X : Cx} {a b c : Expr} {ta tb tc : TE} {pos : Pos}
theorem qG3 (ha : PE X a ta) (hb : PE X b tb) {pins : List (Addr × Obj)} {s : Shared} {σ : St} {H : Hp} {R : V → V → Hp → Prop} (I : Inv X pins σ H s)
    (h : ta σ H fun x H1 => tb σ H1 fun y H2 => R x y H2) {Q : Value → Shared → Prop} {f : Value → Value → Sem Value}
    (hf : ∀ v u s2 x y H2, Inv X pins σ H2 s2 → RelV x v → RelV y u → R x y H2 → wpAny (model X.prog X.w) X.A (f v u) Q X.xe s2) :
    wpAny (model X.prog X.w) X.A (eval a X.env) (fun v s₁ => wpAny (model X.prog X.w) X.A (eval b X.env) (fun u s₂ => wpAny (model X.prog X.w) X.A (f v u) Q X.xe s₂) X.xe s₁) X.xe s := by
  refine thn (ha pins s σ H _ I h) fun v s1 ⟨x, H1, I1, r1, q1⟩ => ?_
  refine thn (hb pins s1 σ H1 _ I1 q1) fun u s2 ⟨y, H2, I2, r2, q2⟩ => ?_
  exact hf v u s2 x y H2 I2 r1 r2 q2
theorem qQ {op : Operator} {r : R2} (ho : OpR X (binaryOp op) r) (ha : PE X a ta) (hb : PE X b tb) : PE X (.BinOp a op b pos) (tOp r ta tb) := by
  intro pins s σ H Q I h
  exact wpAny_BinOp (qG3 ha hb I h fun v u s2 x y H2 I2 rx ry q => ho pins s2 σ H2 x y v u Q I2 rx ry q)
theorem xX {op : UnaryOp} {r : V → Hp → VK → Prop} (ho : UnR X (unaryOp op) r) (ha : PE X a ta) : PE X (.UnaryOp op a pos) (tUn r ta) := by
  intro pins s σ H Q I h
  exact UnaryOp_ (thn (ha pins s σ H _ I h) fun v s1 ⟨x, H1, I1, r1, q1⟩ => ho pins s1 σ H1 x v Q I1 r1 q1)
theorem opI {f : Value → Value → Sem Value} {C : Int → Int → Prop} {g : Int → Int → Int}
    (rule : ∀ (i j : Int) (t u : Tok) (s : Shared) (Q : Value → Shared → Prop) (E : Value → Shared → Prop), C i j → Q (.int (g i j) s.toks) { s with toks := s.toks + 1 } → wpAny (model X.prog X.w) X.A (f (.int i t) (.int j u)) Q E s) :
    OpR X f (rI C fun i j => .int (g i j)) := by
  intro pins s σ H x y v u Q I rx ry h
  obtain ⟨i, j, rfl, rfl, hc, q⟩ := h
  obtain ⟨t, rfl⟩ := rx
  obtain ⟨t', rfl⟩ := ry
  exact rule i j t t' s _ _ hc ⟨.int (g i j), H, I.tok _, ⟨_, rfl⟩, q⟩
theorem qHb {f : Value → Value → Sem Value} {g : Int → Int → Int}
    (rule : ∀ (i j : Int) (t u : Tok) (s : Shared) (Q : Value → Shared → Prop) (E : Value → Shared → Prop), Q (.int (g i j) s.toks) { s with toks := s.toks + 1 } → wpAny (model X.prog X.w) X.A (f (.int i t) (.int j u)) Q E s) :
    OpR X f (rI0 fun i j => .int (g i j)) := by
  intro pins s σ H x y v u Q I rx ry h
  obtain ⟨i, j, rfl, rfl, q⟩ := h
  obtain ⟨t, rfl⟩ := rx
  obtain ⟨t', rfl⟩ := ry
  exact rule i j t t' s _ _ ⟨.int (g i j), H, I.tok _, ⟨_, rfl⟩, q⟩
theorem qGt {f : Value → Value → Sem Value} {g : Int → Int → Bool}
    (rule : ∀ (i j : Int) (t u : Tok) (s : Shared) (Q : Value → Shared → Prop) (E : Value → Shared → Prop), Q (.bool (g i j)) s → wpAny (model X.prog X.w) X.A (f (.int i t) (.int j u)) Q E s) :
    OpR X f (rI0 fun i j => .bl (g i j)) := by
  intro pins s σ H x y v u Q I rx ry h
  obtain ⟨i, j, rfl, rfl, q⟩ := h
  obtain ⟨t, rfl⟩ := rx
  obtain ⟨t', rfl⟩ := ry
  exact rule i j t t' s _ _ ⟨.bl (g i j), H, I, rfl, q⟩
def qHa (i j : Int) : Prop := 0 ≤ j ∧ j ≤ 1000000 ∧ i.natAbs < 2 ^ 64
def CMul (i j : Int) : Prop := (-(2 ^ 64) < i ∧ i < 2 ^ 64) ∨ (-(2 ^ 64) < j ∧ j < 2 ^ 64)
theorem CMul.ok {i j : Int} (h : CMul i j) : IntMulOk i j := by
  rcases h with ⟨h1, h2⟩ | ⟨h1, h2⟩
  · exact .of_left (intBits_le_64 h1 h2)
  · exact .of_right (intBits_le_64 h1 h2)
theorem jF : OpR X (binaryOp .Add) (rI0 fun i j => .int (i + j)) := qHb fun _ _ _ _ _ _ _ q => add_int q
theorem qCe : OpR X (binaryOp .Sub) (rI0 fun i j => .int (i - j)) := qHb fun _ _ _ _ _ _ _ q => sub_int q
theorem qj : OpR X (binaryOp .Mod) (rI (fun _ j => j ≠ 0) fun i j => .int (i.fmod j)) := opI fun _ _ _ _ _ _ _ hc q => mod_int' hc q
theorem qFm : OpR X (binaryOp .Pow) (rI qHa fun i j => .int (i ^ j.toNat)) := opI fun _ _ _ _ _ _ _ hc q => pow_int_small hc.1 hc.2.1 hc.2.2 q
theorem unI {f : Value → Sem Value} {g : Int → Int}
    (rule : ∀ (i : Int) (t : Tok) (s : Shared) (Q : Value → Shared → Prop) (E : Value → Shared → Prop), Q (.int (g i) s.toks) { s with toks := s.toks + 1 } → wpAny (model X.prog X.w) X.A (f (.int i t)) Q E s) :
    UnR X f (rU fun i => .int (g i)) := by
  intro pins s σ H x v Q I rx h
  obtain ⟨i, rfl, q⟩ := h
  obtain ⟨t, rfl⟩ := rx
  exact rule i t s _ _ ⟨.int (g i), H, I.tok _, ⟨_, rfl⟩, q⟩
theorem jp : UnR X (unaryOp .USub) (rU fun i => .int (-i)) := unI fun _ _ _ _ _ q => neg_int q
end
def qGc : V → V → Bool
  | .non, .non => true | .non, .int _ => true | .int _, .non => true | .non, .bl _ => true | .bl _, .non => true | .non, .str _ => true | .str _, .non => true
  | .int _, .int _ => true | .bl _, .bl _ => true | .str _, .str _ => true | .byt _, .byt _ => true
  | .int _, .str _ => true | .str _, .int _ => true | .bl _, .str _ => true | .str _, .bl _ => true
  | _, _ => false
def rEq : R2 := fun x y H Q => qGc x y = true ∧ Q (.bl (decide (x = y))) H
def rNe : R2 := fun x y H Q => qGc x y = true ∧ Q (.bl (!decide (x = y))) H
theorem qBx {i j : Int} : decide (V.int i = V.int j) = (i == j) := by
  rw [Bool.eq_iff_iff]
  simp
theorem qDu {i j : Bool} : decide (V.bl i = V.bl j) = (i == j) := by
  rw [Bool.eq_iff_iff]
  simp
theorem qBj {i j : Str} : decide (V.str i = V.str j) = (i == j) := by
  rw [Bool.eq_iff_iff]
  simp
theorem qCk {i j : Array UInt8} : decide (V.byt i = V.byt j) = (i.toList == j.toList) := by
  rw [Bool.eq_iff_iff]
  cases i
  cases j
  simp
section
variable {X : Cx} {a b c : Expr} {ta tb tc : TE} {pos : Pos}
theorem qq {pins : List (Addr × Obj)} {σ : St} {H : Hp} {s : Shared} {Q : VK} {k k' : Bool} (I : Inv X pins σ H s) (q : Q (.bl k) H) (e : k = k') : EP X pins σ Q (.bool k') s := by
  subst e
  exact ⟨.bl k, H, I, rfl, q⟩
theorem j0 : OpR X (compareOp .Eq) rEq := by
  intro pins s σ H x y v u Q I rx ry h
  obtain ⟨hs, q⟩ := h
  cases x with
  | non =>
    cases rx
    cases y with
    | non => cases ry; exact PySem.EqNone.eq_none_none (qq I q (by simp))
    | bl j => cases ry; exact PySem.EqNone.eq_none_bool (qq I q (by simp))
    | int j => obtain ⟨t', rfl⟩ := ry; exact PySem.EqNone.eq_none_int (qq I q (by simp))
    | str j => obtain ⟨t', rfl⟩ := ry; exact PySem.EqNone.eq_none_str (qq I q (by simp))
    | _ => exact absurd (show false = true from hs) Bool.false_ne_true
  | bl i =>
    cases rx
    cases y with
    | non => cases ry; exact PySem.EqNone.eq_bool_none (qq I q (by simp))
    | bl j => cases ry; exact eq_bool (qq I q qDu)
    | str j => obtain ⟨t', rfl⟩ := ry; exact PySem.EqMixed.eq_bool_str (qq I q (by simp))
    | _ => exact absurd (show false = true from hs) Bool.false_ne_true
  | int i =>
    obtain ⟨t, rfl⟩ := rx
    cases y with
    | non => cases ry; exact PySem.EqNone.eq_int_none (qq I q (by simp))
    | int j => obtain ⟨t', rfl⟩ := ry; exact eq_int (qq I q qBx)
    | str j => obtain ⟨t', rfl⟩ := ry; exact PySem.EqMixed.eq_int_str (qq I q (by simp))
    | _ => exact absurd (show false = true from hs) Bool.false_ne_true
  | str i =>
    obtain ⟨t, rfl⟩ := rx
    cases y with
    | non => cases ry; exact PySem.EqNone.eq_str_none (qq I q (by simp))
    | bl j => cases ry; exact PySem.EqMixed.eq_str_bool (qq I q (by simp))
    | int j => obtain ⟨t', rfl⟩ := ry; exact PySem.EqMixed.eq_str_int (qq I q (by simp))
    | str j => obtain ⟨t', rfl⟩ := ry; exact eq_str (qq I q qBj)
    | _ => exact absurd (show false = true from hs) Bool.false_ne_true
  | byt i =>
    obtain ⟨t, rfl⟩ := rx
    cases y with
    | byt j => obtain ⟨t', rfl⟩ := ry; exact PySem.W.eq_bytes (qq I q qCk)
    | _ => exact absurd (show false = true from hs) Bool.false_ne_true
  | _ => cases y <;> exact absurd (show false = true from hs) Bool.false_ne_true
theorem xb : OpR X (compareOp .NotEq) rNe := by
  intro pins s σ H x y v u Q I rx ry h
  obtain ⟨hs, q⟩ := h
  cases x with
  | non =>
    cases rx
    cases y with
    | non => cases ry; exact PySem.EqNone.ne_none_none (qq I q (by simp))
    | bl j => cases ry; exact PySem.EqNone.ne_none_bool (qq I q (by simp))
    | int j => obtain ⟨t', rfl⟩ := ry; exact PySem.EqNone.ne_none_int (qq I q (by simp))
    | str j => obtain ⟨t', rfl⟩ := ry; exact PySem.EqNone.ne_none_str (qq I q (by simp))
    | _ => exact absurd (show false = true from hs) Bool.false_ne_true
  | bl i =>
    cases rx
    cases y with
    | non => cases ry; exact PySem.EqNone.ne_bool_none (qq I q (by simp))
    | bl j => cases ry; exact ne_bool (qq I q (congrArg not qDu))
    | str j => obtain ⟨t', rfl⟩ := ry; exact PySem.EqMixed.ne_bool_str (qq I q (by simp))
    | _ => exact absurd (show false = true from hs) Bool.false_ne_true
  | int i =>
    obtain ⟨t, rfl⟩ := rx
    cases y with
    | non => cases ry; exact PySem.EqNone.ne_int_none (qq I q (by simp))
    | int j => obtain ⟨t', rfl⟩ := ry; exact ne_int (qq I q (congrArg not qBx))
    | str j => obtain ⟨t', rfl⟩ := ry; exact PySem.EqMixed.ne_int_str (qq I q (by simp))
    | _ => exact absurd (show false = true from hs) Bool.false_ne_true
  | str i =>
    obtain ⟨t, rfl⟩ := rx
    cases y with
    | non => cases ry; exact PySem.EqNone.ne_str_none (qq I q (by simp))
    | bl j => cases ry; exact PySem.EqMixed.ne_str_bool (qq I q (by simp))
    | int j => obtain ⟨t', rfl⟩ := ry; exact PySem.EqMixed.ne_str_int (qq I q (by simp))
    | str j => obtain ⟨t', rfl⟩ := ry; exact ne_str (qq I q (congrArg not qBj))
    | _ => exact absurd (show false = true from hs) Bool.false_ne_true
  | byt i =>
    obtain ⟨t, rfl⟩ := rx
    cases y with
    | byt j => obtain ⟨t', rfl⟩ := ry; exact PySem.W.ne_bytes (qq I q (congrArg not qCk))
    | _ => exact absurd (show false = true from hs) Bool.false_ne_true
  | _ => cases y <;> exact absurd (show false = true from hs) Bool.false_ne_true
theorem qA2 : OpR X (compareOp .Lt) (rI0 fun i j => .bl (decide (i < j))) := qGt fun _ _ _ _ _ _ _ q => lt_int q
theorem qE0 : OpR X (compareOp .Gt) (rI0 fun i j => .bl (decide (j < i))) := qGt fun _ _ _ _ _ _ _ q => gt_int q
theorem qCw : OpR X (compareOp .GtE) (rI0 fun i j => .bl (decide (j ≤ i))) := qGt fun _ _ _ _ _ _ _ q => ge_int q
theorem OpR.or {f : Value → Value → Sem Value} {r r' : R2} (h : OpR X f r) (h' : OpR X f r') : OpR X f (fun x y H Q => r x y H Q ∨ r' x y H Q) := by
  intro pins s σ H x y v u Q I rx ry q
  rcases q with q | q
  · exact h pins s σ H x y v u Q I rx ry q
  · exact h' pins s σ H x y v u Q I rx ry q
theorem qM (b : Expr) {op : CmpOp} (h : op ≠ .In := by decide) (h2 : op ≠ .NotIn := by decide) : behindInMarks op b = false := by
  have e1 : (op == CmpOp.In) = false := by cases op <;> first | rfl | exact absurd rfl h
  have e2 : (op == CmpOp.NotIn) = false := by cases op <;> first | rfl | exact absurd rfl h2
  cases b <;> simp [behindInMarks, e1, e2]
theorem jW {op : CmpOp} {r : R2} (ho : OpR X (compareOp op) r) (ha : PE X a ta) (hb : PE X b tb) (hm : behindInMarks op b = false) : PE X (.Compare a [op] [b] pos) (tOp r ta tb) := by
  intro pins s σ H Q I h
  exact wpAny_Compare1 (qG3 ha hb I h fun v u s2 x y H2 I2 rx ry q => ho pins s2 σ H2 x y v u Q I2 rx ry q) hm
def qGl (t : TE) : TT := fun σ H Q => t σ H fun x H' => ∃ k, x = .bl k ∧ Q k H'
theorem qJ {op : CmpOp} {r : R2} (ho : OpR X (compareOp op) r) (ha : PE X a ta) (hb : PE X b tb) (hm : behindInMarks op b = false) : PT X (.Compare a [op] [b] pos) (qGl (tOp r ta tb)) := by
  intro pins s σ H Q I h
  refine wpAny_isTrue_Compare1 (thn (ha pins s σ H _ I h) fun v s1 ⟨x, H1, I1, r1, q1⟩ => thn (hb pins s1 σ H1 _ I1 q1) fun u s2 ⟨y, H2, I2, r2, q2⟩ =>
    thn (ho pins s2 σ H2 x y v u _ I2 r1 r2 q2) fun c s3 ⟨z, H3, I3, r3, k, e, q3⟩ => ?_) hm
  subst e
  cases r3
  exact wpAny_truthy_bool ⟨H3, I3, q3⟩
theorem wF : (sizeLine : Nat) < 2 ^ 63 := by rw [sizeLine_eq]; decide
theorem qCl {x : V} {us : List Value} (r : Vals [x] us) : ∃ u, us = [u] ∧ RelV x u := by
  cases r with
  | cons r1 r2 => cases r2; exact ⟨_, rfl, r1⟩
theorem qFi {x y : V} {us : List Value} (r : Vals [x, y] us) : ∃ u w', us = [u, w'] ∧ RelV x u ∧ RelV y w' := by
  cases r with
  | cons r1 r2 =>
    cases r2 with
    | cons r3 r4 => cases r4; exact ⟨_, _, rfl, r1, r3⟩
theorem vW : CallR X (.builtin "abs") (fun xs H Q => ∃ i, xs = [.int i] ∧ Q (.int (if i < 0 then -i else i)) H) := by
  intro pins s σ H xs us Q I r h
  obtain ⟨i, rfl, q⟩ := h
  obtain ⟨u, rfl, t, rfl⟩ := qCl r
  exact call_abs_int fun u tk => ⟨.int (if i < 0 then -i else i), H, I.tok _, ⟨_, rfl⟩, q⟩
end
end L2
namespace L2
open PySem PySem.Spec PyProof.Rows
structure ObjM (h : Heap) (x dx C : Addr) (mA : Str → Option Value) : Prop where
  obj : h.get? x = some (PySem.W.instObj C dx)
  ns : h.Ns1 dx mA
  ne : dx ≠ x
theorem qBn {h : Heap} {dx : Addr} {mA : Str → Option Value} (n : h.Ns1 dx mA) : ∃ od, h.get? dx = some od ∧ ∀ name, PySem.W.lookIn name od = some (mA name) := by
  obtain ⟨o, es, ep, ho, hd, hk, _, hm⟩ := n
  refine ⟨o, ho, fun name => ?_⟩
  have e := hm name
  unfold nsFind findBy at e
  rw [← Array.find?_toList] at e
  unfold PySem.W.lookIn
  rw [hd]
  dsimp only
  split
  · rename_i y q
    rw [q] at e
    exact congrArg some e
  · rename_i q
    rw [q] at e
    have a : es.toList.any (·.refKey) = false := by
      rw [List.any_eq_false]
      intro y hy
      obtain ⟨z, t, hkey⟩ := hk y (Array.mem_toList_iff.mp hy)
      simp [DictEntry.refKey, hkey]
    have a' : ¬ es.toList.any (·.refKey) = true := by rw [a]; exact Bool.false_ne_true
    rw [if_neg a']
    exact congrArg some e
theorem ObjM.look {h : Heap} {x dx C : Addr} {mA : Str → Option Value} (I : ObjM h x dx C mA) : ∃ od, PySem.W.InstAt h x (PySem.W.instObj C dx) C (some od) ∧ ∀ name, PySem.W.lookIn name od = some (mA name) :=
  let ⟨od, ho, hl⟩ := qBn I.ns
  ⟨od, ⟨I.obj, rfl, rfl, ho⟩, hl⟩
section
variable {prog : Program} {w : World} {A : Around} {E : Value → Shared → Prop} {s : Shared} {K : PySem.W.Frag} {x dx C f : Addr} {mA : Str → Option Value} {name : Str} {v : Value}
end
section
variable {P : Program} {w : World} {H H' : Hp} {h h' : Heap} {a C dx : Addr} {fs fs' : List (Str × V)}
theorem qEb (hok : HOk P w H h) (e : H a = some (.ins C dx fs)) : ∃ mA, ObjM h a dx C mA ∧ (∀ f, RelO (fs.lookup f) (mA f)) ∧ PySem.Within mA (fs.map (·.1)) ∧ fs.length ≤ 1000 ∧ H dx = some (.own a) := by
  obtain ⟨d, z, ne, ob, mA, n, r, q⟩ := (show ObjOk P w H h a (.ins C dx fs) from hok a _ e)
  exact ⟨mA, ⟨ob, n, ne⟩, r, q, z, d⟩
end
structure Cls (K : PySem.W.Frag) (C : Addr) : Prop where
  pg : PySem.W.plainGet K C Str.empty = true
  hd : PySem.W.hasDictIn K C = true
  po : PySem.W.plainOver K C = true
  sa : PySem.W.findIn K (.ref C) "__setattr__" = some (some (.builtin "object.__setattr__"))
theorem Cls.get {K : PySem.W.Frag} {C : Addr} (c : Cls K C) (f : Str) : PySem.W.plainGet K C f = true := c.pg
structure Con (K : PySem.W.Frag) (C : Addr) (f : Str) (v : V) (u : Value) : Prop where
  at_ : PySem.W.findIn K (.ref C) f = some (some u)
  rel : RelV v u
  get : PySem.W.specialIn K u "__get__" = some none
  cp : PySem.W.copiedNames.contains f = false
structure Meth (K : PySem.W.Frag) (C : Addr) (m : Str) (f : Addr) : Prop where
  at_ : PySem.W.findIn K (.ref C) m = some (some (.ref f))
  fn : PySem.W.isFn K (.ref f) = true
  kp : PySem.W.keepIn K (.ref f) = true
section
variable {X : Cx} {pins : List (Addr × Obj)} {σ : St} {H : Hp} {s : Shared} {a C dx : Addr} {fs : List (Str × V)} {f : Str} {v : V} {A : Around} {E : Value → Shared → Prop}
theorem Inv.made (I : Inv X pins σ H s) : Inv X pins σ (upd (upd H s.heap.objs.size (.own (s.heap.objs.size + 1))) (s.heap.objs.size + 1) (.ins C s.heap.objs.size []))
    { s with heap := (s.heap.push PySem.W.emptyDict).push (PySem.W.instObj C s.heap.objs.size) } := by
  have e1 : (s.heap.push PySem.W.emptyDict).get? s.heap.objs.size = some PySem.W.emptyDict := Heap.get?_push_size s.heap rfl
  have e2 : ((s.heap.push PySem.W.emptyDict).push (PySem.W.instObj C s.heap.objs.size)).get? (s.heap.objs.size + 1) = some (PySem.W.instObj C s.heap.objs.size) := by
    have := Heap.get?_push_size (s.heap.push PySem.W.emptyDict) (o := PySem.W.instObj C s.heap.objs.size) rfl
    rwa [Heap.size_push] at this
  have e3 : (s.heap.push PySem.W.emptyDict).Ns s.heap.objs.size (fun _ => none) := ⟨PySem.W.emptyDict, #[], _, e1, rfl, (fun e he => absurd he (by simp)), fun _ => rfl⟩
  have I1 := I.laid (a := s.heap.objs.size) (o := .own (s.heap.objs.size + 1)) (h' := s.heap.push PySem.W.emptyDict) (t' := s.toks) (fun b u q => Heap.get?_push_of_some _ q) (Nat.le_refl _) ⟨_, e1⟩
  refine I1.laid (a := s.heap.objs.size + 1) (o := .ins C s.heap.objs.size []) (t' := s.toks) (fun b u q => Heap.get?_push_of_some _ q) (Nat.le_of_eq (Heap.size_push _ _)) ?_
  have ne : s.heap.objs.size ≠ s.heap.objs.size + 1 := Nat.ne_of_lt (Nat.lt_succ_self _)
  refine ⟨by rw [qW ne, qC], Nat.zero_le _, ne, e2, fun _ => none, (Heap.Ns1.of_empty e3).at fun o q => Heap.get?_push_of_some _ q, fun _ => True.intro, fun y hy => absurd rfl hy⟩
end
section
variable {X : Cx} {o e value : Expr} {f : Str} {pos pos' tpos : Pos} {ta tv : TE}
end
section
variable {X : Cx} {pins : List (Addr × Obj)} {σ : St} {H : Hp} {s : Shared} {A : Around} {E : Value → Shared → Prop} {Q : Value → Shared → Prop} {c : Value} {b : Bool}
inductive vR (K : PySem.W.Frag) (H : Hp) : V → Value → Prop where
  | non : vR K H .non (.type "NoneType")
  | bl (x : Bool) : vR K H (.bl x) (.type "bool")
  | int (i : Int) : vR K H (.int i) (.type "int")
  | str (x : Str) : vR K H (.str x) (.type "str")
  | flt (x : UInt64) : vR K H (.flt x) (.type "float")
  | lst {a : Addr} {xs : List V} (e : H a = some (.lst xs)) : vR K H (.ref a) (.type "list")
  | frz {a : Addr} {o : Obj} {xs : List V} (e : H a = some (.frz o (.lst xs))) : vR K H (.ref a) (.type "list")
  | tup {a : Addr} {xs : List V} (e : H a = some (.tup xs)) : vR K H (.ref a) (.type "tuple")
  | dK {a : Addr} {kvs : List (Key × V)} (e : H a = some (.dK kvs)) : vR K H (.ref a) (.type "dict")
  | dT {a : Addr} {kvs : List (List Key × V)} (e : H a = some (.dT kvs)) : vR K H (.ref a) (.type "dict")
  | ins {a C dx : Addr} {fs : List (Str × V)} (e : H a = some (.ins C dx fs)) (cl : Cls K C) (ha : PySem.W.findIn K (.ref C) "__class__" = some (some (.builtin "object.__class__")))
      (hn : PySem.W.specialIn K (.builtin "object.__class__") "__get__" = some (some (.builtin "getset_descriptor.__get__"))) (htk : PySem.W.takesIn K (.builtin "object.__class__") = some true)
      (hm : PySem.W.mroIn K C (.type "object") = some true) : vR K H (.ref a) (.ref C)
theorem wD {x : V} {u t : Value} (I : Inv X pins σ H s) (rx : RelV x u) (ty : vR X.K H x t) (e : PySem.W.kitOne X.K t c = some b) (h : ∀ tk, Q (.bool b) { s with toks := tk }) :
    wpAny (model X.prog X.w) A (call (.builtin "isinstance") [u, c]) Q E s := by
  cases ty with
  | non => cases (show u = Value.none from rx); exact PySem.W.kia_one PySem.W.kitx_none I.kIn True.intro e (fun z => nomatch z) h
  | bl y => cases (show u = Value.bool y from rx); exact PySem.W.kia_one PySem.W.kitx_bool I.kIn True.intro e (fun z => nomatch z) h
  | int i => obtain ⟨t, q⟩ := (show ∃ t, u = Value.int i t from rx); cases q; exact PySem.W.kia_one PySem.W.kitx_int I.kIn True.intro e (fun z => nomatch z) h
  | str y => obtain ⟨t, q⟩ := (show ∃ t, u = Value.str y t from rx); cases q; exact PySem.W.kia_one PySem.W.kitx_str I.kIn True.intro e (fun z => nomatch z) h
  | flt y => obtain ⟨t, q⟩ := (show ∃ t, u = Value.float y t from rx); cases q; exact PySem.W.kia_one PySem.W.kitx_float I.kIn True.intro e (fun z => nomatch z) h
  | @lst a xs ea =>
    cases (show u = Value.ref a from rx)
    obtain ⟨_, _, n, _, h1⟩ := (show ObjOk X.prog X.w H s.heap a (.lst xs) from I.hok a _ ea)
    exact PySem.W.kia_one PySem.W.kitx_list I.kIn ⟨_, h1, rfl⟩ e (fun z => nomatch z) h
  | @frz a ob xs ea =>
    cases (show u = Value.ref a from rx)
    obtain ⟨_, _, _, n, _, h1⟩ := (show ObjOk X.prog X.w H s.heap a (.frz ob (.lst xs)) from I.hok a _ ea)
    exact PySem.W.kia_one PySem.W.kitx_list I.kIn ⟨_, h1, rfl⟩ e (fun z => nomatch z) h
  | @tup a xs ea =>
    cases (show u = Value.ref a from rx)
    obtain ⟨_, _, _, p⟩ := (show ObjOk X.prog X.w H s.heap a (.tup xs) from I.hok a _ ea)
    obtain ⟨o, h1, h2, _⟩ := p
    exact PySem.W.kia_one PySem.W.kitx_tuple I.kIn ⟨o, h1, h2⟩ e (fun z => nomatch z) h
  | @dK a kvs ea =>
    cases (show u = Value.ref a from rx)
    obtain ⟨_, _, vs, _, p⟩ := (show ObjOk X.prog X.w H s.heap a (.dK kvs) from I.hok a _ ea)
    obtain ⟨o, es, ep, h1, h2, _⟩ := p
    exact PySem.W.kia_one PySem.W.kitx_dict I.kIn ⟨o, h1, h2.1⟩ e (fun z => nomatch z) h
  | @dT a kvs ea =>
    cases (show u = Value.ref a from rx)
    obtain ⟨_, _, xs, _, o, es, ep, h1, h2, _⟩ := (show ObjOk X.prog X.w H s.heap a (.dT kvs) from I.hok a _ ea)
    exact PySem.W.kia_one PySem.W.kitx_dict I.kIn ⟨o, h1, h2.1⟩ e (fun z => nomatch z) h
  | @ins a C dx fs ea cl ha hn htk hm =>
    cases (show u = Value.ref a from rx)
    obtain ⟨mA, O, _⟩ := qEb I.hok ea
    obtain ⟨od, J, _⟩ := O.look
    exact PySem.W.kia_one (PySem.W.kitx_own (cl.get _) cl.hd ha hn htk hm) I.kIn J e (fun z => nomatch z) h
end
end L2
namespace L2
open PySem PySem.Spec PyProof.Rows
structure Room (k : Nat) (A : Around) : Prop where
  hd : A.handled = none
  dp : A.depth + 3 * k + 5 < recursionLimit
  un : A.units + 16 * k + 200 < cLine
theorem Room.mono {j k : Nat} {A : Around} (r : Room k A) (h : j ≤ k) : Room j A := ⟨r.hd, by have := r.dp; omega, by have := r.un; omega⟩
theorem Room.deeper {k : Nat} {A : Around} (r : Room (k + 1) A) (env : Env) : Room k (A.deeper env) :=
  ⟨r.hd, by have := r.dp; show A.depth + 1 + 3 * k + 5 < _; omega, by have := r.un; show A.units + 3 + 16 * k + 200 < _; omega⟩
theorem Room.in1 {k : Nat} {A : Around} (r : Room (k + 1) A) : Room k A.in1 :=
  ⟨r.hd, by have := r.dp; show A.depth + 3 * k + 5 < _; omega, by have := r.un; show A.units + 1 + 16 * k + 200 < _; omega⟩
theorem Room.depth {k : Nat} {A : Around} (r : Room k A) : A.depth < recursionLimit := by have := r.dp; omega
theorem Room.units {k : Nat} {A : Around} (r : Room k A) : A.units + 64 < cLine := by have := r.un; omega
theorem Room.units0 {k : Nat} {A : Around} (r : Room k A) : A.units < cLine := by have := r.un; omega
def qHf : TA := fun _ H Q => Q [] H
def qGn (ta : TE) (tr : TA) : TA := fun σ H Q => ta σ H fun x H1 => tr σ H1 fun xs H2 => Q (x :: xs) H2
section
variable {X : Cx} {e : Expr} {es : List Expr} {te : TE} {t : TA} {pos : Pos}
theorem qE : PA X [] qHf := fun _ _ _ _ H Q I h => Calls.spliced_nil ⟨[], H, I, .nil, h⟩
theorem qA (ha : PE X e te) (hr : PA X es t) (hs : starEach (e :: es) X.env = (false, eval e X.env) :: starEach es X.env := by rfl) : PA X (e :: es) (qGn te t) := by
  intro pos pins s σ H Q I h
  rw [hs]
  show wpAny _ _ (spliced ((false, eval e X.env) :: backTo pos (starEach es X.env))) _ _ s
  refine Calls.spliced_cons (thn (ha pins s σ H _ I h) fun u s1 ⟨x, H1, I1, r1, q1⟩ => ?_)
  exact thn (hr pos pins s1 σ H1 _ I1 q1) fun us s2 ⟨xs, H2, I2, r2, q2⟩ => ⟨x :: xs, H2, I2, .cons r1 r2, q2⟩
def qHx (t : TA) : TE := fun σ H Q => t σ H fun xs H1 => xs.length ≤ sizeLine ∧ ∀ p, H1 p = none → Q (.ref p) (upd H1 p (.tup xs))
def qHe (t : TA) : TE := fun σ H Q => t σ H fun xs H1 => xs.length ≤ sizeLine ∧ ∀ p, H1 p = none → Q (.ref p) (upd H1 p (.lst xs))
theorem qi {x1} (h : PA X es t) : PE X (.Tuple es x1 pos) (qHx t) := by
  intro pins s σ H Q I hq
  refine wpAny_Tuple_spliced (thn (h pos pins s σ H _ I hq) fun us s1 ⟨xs, H1, I1, r, z, q⟩ => ⟨by rw [← r.length]; exact z, ?_⟩)
  have hf : H1 s1.heap.objs.size = none := I1.hok.fresh (Nat.le_refl _)
  refine ⟨.ref s1.heap.objs.size, upd H1 s1.heap.objs.size (.tup xs), I1.laid (t' := s1.toks) (fun b u e => Heap.get?_push_of_some _ e) (Nat.le_refl _) ?_, rfl, q _ hf⟩
  exact ⟨z, us, r, ⟨_, Heap.get?_push_size _ rfl, rfl, _, rfl⟩⟩
theorem jT (h : PA X es t) : PE X (.List es pos) (qHe t) := by
  intro pins s σ H Q I hq
  refine wpAny_List_spliced (thn (h pos pins s σ H _ I hq) fun us s1 ⟨xs, H1, I1, r, z, q⟩ => ⟨by rw [← r.length]; exact z, ?_⟩)
  have hf : H1 s1.heap.objs.size = none := I1.hok.fresh (Nat.le_refl _)
  refine ⟨.ref s1.heap.objs.size, upd H1 s1.heap.objs.size (.lst xs), I1.laid (t' := s1.toks) (fun b u e => Heap.get?_push_of_some _ e) (Nat.le_refl _) ?_, rfl, q _ hf⟩
  exact ⟨z, us, 0, r, Heap.get?_push_size _ rfl⟩
end
abbrev Sp := List V → Hp → VK → XK → Prop
abbrev CXT := List Env → Hp → Shared → XK → Value → Shared → Prop
structure Env0 (P : Program) (w : World) (K : PySem.W.Frag) (mg : Str → Option Value) (base : Heap) (A : Around) (outer : List Env) (s : Shared) (H : Hp) : Prop where
  frames : A.frames = some outer
  mod : Mod K mg base
  bs : ∀ b o, base.get? b = some o → s.heap.get? b = some o ∧ H b = none
  bsz : base.objs.size ≤ s.heap.objs.size
  funs : s.heap.FunFrames base outer
  frf : ∀ b ∈ frs outer, H b = none
  hok : HOk P w H s.heap
  bare : AllBare s.gens
def CE (outer : List Env) (P : Program) (w : World) (H : Hp) (s : Shared) (Q : VK) (u : Value) (s' : Shared) : Prop :=
  ∃ v H', s'.os = s.os ∧ AllBare s'.gens ∧ Un (frs outer) [] H H' s.heap s'.heap ∧ HOk P w H' s'.heap ∧ RelV v u ∧ Q v H'
def CR (CX : CXT) (outer : List Env) (P : Program) (w : World) (H : Hp) (s : Shared) (Q : VK) (E : XK) (r : Result) (s' : Shared) : Prop :=
  match r with
  | .ok (.ret u) => CE outer P w H s Q u s'
  | .ok _ => False
  | .error e => CX outer H s E e s'
structure FnOk (P : Program) (w : World) (K : PySem.W.Frag) (mg : Str → Option Value) (base : Heap) (CX : CXT) (k : Nat) (f : Addr) (fd : FuncData) (ps : List Str) (sp : Sp) : Prop where
  len : ∀ vs H Q E, sp vs H Q E → vs.length = ps.length
  run : ∀ (A : Around) (outer : List Env) (s : Shared) (H : Hp) (args : Args) (us : List Value) (vs : List V) (Q : VK) (E : XK), Room k A → Env0 P w K mg base A outer s H → BindsTo s fd args (ps.zip us) → Vals vs us → sp vs H Q E →
    codeAny (model P w) A (.call (.ref f) args) (CR CX outer P w H s Q E) s
theorem FnOk.mono {P : Program} {w : World} {K : PySem.W.Frag} {mg : Str → Option Value} {base : Heap} {CX : CXT} {j k : Nat} {f : Addr} {fd : FuncData} {ps : List Str} {sp : Sp} (F : FnOk P w K mg base CX j f fd ps sp) (h : j ≤ k) :
    FnOk P w K mg base CX k f fd ps sp := ⟨F.len, fun A outer s H args us vs Q E hr => F.run A outer s H args us vs Q E (hr.mono h)⟩
theorem FnOk.imp {P : Program} {w : World} {K : PySem.W.Frag} {mg : Str → Option Value} {base : Heap} {CX : CXT} {k : Nat} {f : Addr} {fd : FuncData} {ps : List Str} {sp sp' : Sp} (F : FnOk P w K mg base CX k f fd ps sp)
    (h : ∀ vs H Q E, sp' vs H Q E → sp vs H Q E) : FnOk P w K mg base CX k f fd ps sp' :=
  ⟨fun vs H Q E q => F.len vs H Q E (h _ _ _ _ q), fun A outer s H args us vs Q E hr he hb hv hs => F.run A outer s H args us vs Q E hr he hb hv (h _ _ _ _ hs)⟩
theorem Env0.in1 {P : Program} {w : World} {K : PySem.W.Frag} {mg : Str → Option Value} {base : Heap} {A : Around} {outer : List Env} {s : Shared} {H : Hp} (e : Env0 P w K mg base A outer s H) :
    Env0 P w K mg base A.in1 outer s H := ⟨e.frames, e.mod, e.bs, e.bsz, e.funs, e.frf, e.hok, e.bare⟩
section
variable {X : Cx} {pins : List (Addr × Obj)} {σ : St} {H : Hp} {s s' : Shared}
theorem Inv.env0 (I : Inv X pins σ H s) : Env0 X.prog X.w X.K X.mg X.base X.A X.stack s H :=
  ⟨I.ok.frames, I.ok.mod, I.bs, Nat.le_trans I.ok.bsz I.sz, I.stack, I.stkFree, I.hok, I.bare⟩
theorem Inv.after {Q : VK} {u : Value} (I : Inv X pins σ H s) (h : CE X.stack X.prog X.w H s Q u s') : EP X pins σ Q u s' := by
  obtain ⟨v, H', os, bare, un, hok, r, q⟩ := h
  obtain ⟨hh, g, d, t, os'⟩ := s'
  obtain rfl : os' = s.os := os
  exact ⟨v, H', I.call (h' := hh) (g' := g) (d' := d) (t' := t) (ch := []) un hok bare (fun b z => absurd z (by simp)), r, q⟩
end
def qFc (sp : Sp) (dvs : List V) (E : XK) (t : TA) : TE := fun σ H Q => t σ H fun vs H1 => sp (vs ++ dvs) H1 Q E
def Binds (K : PySem.W.Frag) (fd : FuncData) (ps : List Str) (ds : List Value) : Prop :=
  ∀ (s : Shared) (us : List Value), K.In s.heap → (us ++ ds).length = ps.length → BindsTo s fd ⟨us, []⟩ (ps.zip (us ++ ds))
theorem Binds.all {K : PySem.W.Frag} {fd : FuncData} {ps : List Str} (h : ∀ us : List Value, us.length = ps.length → bindArgs fd ⟨us, []⟩ = pure (ps.zip us)) : Binds K fd ps [] := fun s us _ hl => by
  rw [List.append_nil] at hl ⊢
  exact .of_eq (h us hl)
def qBq (CX : CXT) (X : Cx) (E : XK) : Prop := ∀ (pins : List (Addr × Obj)) (σ : St) (H : Hp) (s : Shared) (e : Value) (s' : Shared), Inv X pins σ H s → CX X.stack H s E e s' → X.xe e s'
section
variable {X : Cx} {CX : CXT} {k : Nat} {f C : Addr} {fd : FuncData} {ps : List Str} {sp : Sp} {dvs : List V} {ds : List Value} {E : XK} {x m : Str} {p pos apos : Pos} {e o : Expr} {es : List Expr} {ta : TE} {t : TA}
theorem qFq {pins : List (Addr × Obj)} {σ : St} {H : Hp} {s : Shared} {Q : VK} {us : List Value} {vs : List V} (F : FnOk X.prog X.w X.K X.mg X.base CX k f fd ps sp) (hr : Room k X.A) (hb : Binds X.K fd ps ds) (hd : Vals dvs ds) (hx : qBq CX X E)
    (I : Inv X pins σ H s) (r : Vals vs us) (h : sp (vs ++ dvs) H Q E) : wpAny (model X.prog X.w) X.A (call (.ref f) us) (EP X pins σ Q) X.xe s := by
  have r2 : Vals (vs ++ dvs) (us ++ ds) := r.append hd
  have hl : (us ++ ds).length = ps.length := by rw [← r2.length]; exact F.len _ _ _ _ h
  refine wpAny_call (codeAny_mono (F.run X.A X.stack s H ⟨us, []⟩ (us ++ ds) (vs ++ dvs) Q E hr I.env0 (hb s us I.kIn hl) r2 h) fun r s' hq => ?_)
  cases r with
  | error e => exact hx pins σ H s e s' I hq
  | ok fl =>
    cases fl with
    | ret u => exact I.after hq
    | next => exact False.elim hq
    | brk => exact False.elim hq
    | cont => exact False.elim hq
theorem qEj (F : FnOk X.prog X.w X.K X.mg X.base CX k f fd ps sp) (hr : Room k X.A) (hg : Gl X x) (hm : X.mg x = some (.ref f)) (hk : PySem.W.keepIn X.K (.ref f) = true) (hb : Binds X.K fd ps ds) (hd : Vals dvs ds) (hx : qBq CX X E)
    (ha : PA X (e :: es) t) (hdb : (x == ("__debug__" : Str)) = false := by decide) (he : starEach (e :: es) X.env = (false, eval e X.env) :: starEach es X.env := by rfl) (hpl : (backTo pos (starEach es X.env)).any (·.1) = false := by rfl) :
    PE X (.Call (.Name x p) (e :: es) [] pos) (qFc sp dvs E t) := by
  intro pins s σ H Q I h
  refine wpAny_Call_Name_kw (wU I hg hm ?_ hdb)
  refine PySem.W.callWith_K (h₀ := X.base) I.ok.mod.kin hk (thn (ha pos pins s σ H _ I h) fun us s1 ⟨vs, H1, I1, r, q⟩ => ⟨I1.kIn, ?_⟩) he hpl
  exact qFq F hr hb hd hx I1 r q
structure Mk (K : PySem.W.Frag) (C f : Addr) : Prop where
  makes : PySem.W.makesIn K C = true
  init : PySem.W.findIn K (.ref C) "__init__" = some (some (.ref f))
  fn : PySem.W.isFn K (.ref f) = true
  kp : PySem.W.keepIn K (.ref C) = true
end
section
variable {X : Cx} {CX : CXT} {k : Nat} {f C : Addr} {fd : FuncData} {ps ks : List Str} {sp : Sp} {E : XK} {x m : Str} {p pos apos kpos : Pos} {e o : Expr} {es : List Expr} {kws : List Keyword} {te ta : TE} {t tk : TA} {nm : Option Str}
structure KBinds (K : PySem.W.Frag) (fd : FuncData) (ps ks : List Str) (g : List Value → List Value → List Value) (gV : List V → List V → List V) : Prop where
  to : ∀ (s : Shared) (us ws : List Value), K.In s.heap → (g us ws).length = ps.length → BindsTo s fd ⟨us, ks.zip ws⟩ (ps.zip (g us ws))
  rel : ∀ {vs : List V} {us : List Value} {zs : List V} {ws : List Value}, Vals vs us → Vals zs ws → Vals (gV vs zs) (g us ws)
variable {g : List Value → List Value → List Value} {gV : List V → List V → List V}
end
structure qV (N P : List Str) (sc : Scope) : Prop where
  kind : sc.kind = .function
  co : sc.isCoroutine = false
  gen : sc.isGenerator = false
  nd : N.Nodup
  pre : N.take P.length = P
  par : ∀ x ∈ P, sc.names.lookup x = some .local ∨ sc.names.lookup x = some .cell
  nofree : ∀ y ∈ sc.names, y.2 ≠ .free
theorem vk {kindOf : Str → Option NameKind} {x : Str} : ∀ {binds : List (Str × Value)} {m : Str → Option Value}, (∀ v, (x, v) ∉ binds) → bindL kindOf binds m x = m x
  | [], _, _ => rfl
  | (n, v) :: r, m, h => by
    unfold bindL
    rw [vk fun w hw => h w (List.mem_cons_of_mem _ hw)]
    split
    · have : x ≠ n := by rintro rfl; exact h v List.mem_cons_self
      simp [this]
    · rfl
theorem wB {kindOf : Str → Option NameKind} {x : Str} : ∀ {binds : List (Str × Value)} {m : Str → Option Value}, (∀ v, (x, v) ∉ binds) → bindC kindOf binds m x = m x
  | [], _, _ => rfl
  | (n, v) :: r, m, h => by
    unfold bindC
    rw [wB fun w hw => h w (List.mem_cons_of_mem _ hw)]
    split
    · rfl
    · have : x ≠ n := by rintro rfl; exact h v List.mem_cons_self
      simp [this]
theorem wI {kindOf : Str → Option NameKind} {x : Str} {v : Value} : ∀ {P : List Str} {vs : List Value} {i : Nat} {m : Str → Option Value}, P.Nodup → P[i]? = some x → vs[i]? = some v → kindOf x = some .local →
    bindL kindOf (P.zip vs) m x = some v
  | [], _, _, _, _, h, _, _ => by simp at h
  | _ :: _, [], _, _, _, _, h, _ => by simp at h
  | p :: P, w :: vs, 0, m, nd, h1, h2, hk => by
    simp at h1 h2; subst h1; subst h2
    show bindL kindOf ((p, w) :: P.zip vs) m p = _
    unfold bindL
    rw [vk fun v hv => (List.nodup_cons.mp nd).1 (List.of_mem_zip hv).1, if_pos hk]
    simp
  | p :: P, w :: vs, i + 1, m, nd, h1, h2, hk => by
    show bindL kindOf ((p, w) :: P.zip vs) m x = _
    unfold bindL
    exact wI (i := i) (List.nodup_cons.mp nd).2 (by simpa using h1) (by simpa using h2) hk
theorem wR {kindOf : Str → Option NameKind} {x : Str} {v : Value} : ∀ {P : List Str} {vs : List Value} {i : Nat} {m : Str → Option Value}, P.Nodup → P[i]? = some x → vs[i]? = some v → kindOf x ≠ some .local →
    bindC kindOf (P.zip vs) m x = some v
  | [], _, _, _, _, h, _, _ => by simp at h
  | _ :: _, [], _, _, _, _, h, _ => by simp at h
  | p :: P, w :: vs, 0, m, nd, h1, h2, hk => by
    simp at h1 h2; subst h1; subst h2
    show bindC kindOf ((p, w) :: P.zip vs) m p = _
    unfold bindC
    rw [wB fun v hv => (List.nodup_cons.mp nd).1 (List.of_mem_zip hv).1, if_neg hk]
    simp
  | p :: P, w :: vs, i + 1, m, nd, h1, h2, hk => by
    show bindC kindOf ((p, w) :: P.zip vs) m x = _
    unfold bindC
    exact wR (i := i) (List.nodup_cons.mp nd).2 (by simpa using h1) (by simpa using h2) hk
def vF (N : List Str) (vs : List V) : St := vs.map some ++ List.replicate (N.length - vs.length) none
def qCo (CX : CXT) (P : Program) (w : World) (K : PySem.W.Frag) (mg : Str → Option Value) (base : Heap) (N : List Str) (qual : Str) (scope : Scope) (f : Addr) (cd : Value) (A : Around) (outer : List Env) (s : Shared) (H : Hp) (E : XK) : Cx where
  prog := P
  w := w
  K := K
  mg := mg
  base := base
  A := A.deeper (envOfC qual scope s.heap.objs.size f cd)
  N := N
  s₀ := s
  H₀ := H
  env := envOfC qual scope s.heap.objs.size f cd
  outer := outer
  stack := envOfC qual scope s.heap.objs.size f cd :: outer
  ex := []
  calm := true
  fn := fun _ => true
  pn := []
  xe := fun e s' => wpAny (model P w) (A.deeper (envOfC qual scope s.heap.objs.size f cd)) (leaving (envOfC qual scope s.heap.objs.size f cd) e) (fun _ s'' => CX outer H s E e s'') (fun e' s'' => CX outer H s E e' s'') s'
theorem wx {sc : Scope} {n : Nat} {x : Str} (h : sc.names.lookup x = some .cell) : ∃ c, (cellsFrom n sc.names []).lookup x = some c := by
  have q := PySem.W.cellsFrom_some sc.names n [] (.inl h)
  exact Option.isSome_iff_exists.mp q
theorem qCa {CX : CXT} {P : Program} {w : World} {K : PySem.W.Frag} {mg : Str → Option Value} {base : Heap} {N ps : List Str} {qual : Str} {scope : Scope} {f : Addr} {cd : Value} {A : Around} {outer : List Env} {s s1 : Shared} {H : Hp} {E : XK} {us : List Value} {vs : List V}
    (S : qV N ps scope) (hd : A.handled = none) (e0 : Env0 P w K mg base A outer s H) (hl : vs.length = ps.length) (r : Vals vs us)
    (x : InCallC s s.heap.objs.size (bindL (envOfC qual scope s.heap.objs.size f cd).kindOf (ps.zip us) fun _ => none) (cellsFrom (s.heap.objs.size + 1) scope.names []) (bindC (envOfC qual scope s.heap.objs.size f cd).kindOf (ps.zip us) fun _ => none) s1) :
    Inv (qCo CX P w K mg base N qual scope f cd A outer s H E) [] (vF N vs) H s1 := by
  have hpl : ps.length ≤ N.length := by have := congrArg List.length S.pre; rw [List.length_take] at this; omega
  obtain ⟨h1, tk, rfl, hk⟩ := x.done
  have noA : ∀ b : Addr, b ∉ (qCo CX P w K mg base N qual scope f cd A outer s H E).ex := fun b z => absurd (show b ∈ ([] : List Addr) from z) (by simp)
  refine ⟨⟨e0.mod, S.kind, rfl, rfl, Nat.le_refl _, fun y z c h1 h2 => ?_, fun y hy => ?_, fun y c _ h => ?_, fun _ => hd, Around.frames_deeper e0.frames, .inr ⟨rfl, rfl⟩, fun b z => absurd z (noA b), e0.bs, e0.bsz, fun b _ _ => noA b, fun b z => absurd z (noA b), e0.funs, e0.frf⟩,
    rfl, e0.bare, Un.kept hk, ⟨_, x.toInCall.ns, fun i y v h1 h2 h3 => ?_⟩, fun y c h => ⟨_, x.cell y c h⟩, e0.hok.fresh (Nat.le_refl _), fun y c h => ?_, fun p hp => absurd (show p ∈ ([] : List (Addr × Obj)) from hp) (by simp), e0.hok.kept hk, ?_⟩
  · exact name_of_addr x.apart (PySem.mem_of_lookup h1) (PySem.mem_of_lookup h2)
  · have hy : scope.names.lookup y = some .cell ∨ scope.names.lookup y = some .free := hy
    rcases hy with hy | hy
    · exact wx hy
    · exact absurd rfl (S.nofree _ (PySem.mem_of_lookup hy))
  · exact Nat.le_of_lt (x.above y c (PySem.mem_of_lookup h))
  · have hi : i < vs.length := by
      unfold vF at h2
      by_cases hi : i < vs.length
      · exact hi
      · rw [List.getElem?_append_right (by simpa using hi)] at h2
        rw [List.getElem?_replicate] at h2
        split at h2 <;> cases h2
    have ha : vs[i]? = some v := by
      unfold vF at h2
      rw [List.getElem?_append_left (by simpa using hi), List.getElem?_map] at h2
      cases e : vs[i]? with
      | none => rw [e] at h2; cases h2
      | some a => rw [e] at h2; cases h2; rfl
    obtain ⟨u, hu, rv⟩ := r.get ha
    have hp : ps[i]? = some y := by
      rw [← S.pre, List.getElem?_take_of_lt (by omega)]; exact h1
    have ndP : ps.Nodup := by rw [← S.pre]; exact S.nd.sublist (List.take_sublist _ _)
    refine ⟨u, rv, ?_⟩
    rcases S.par y (List.mem_of_getElem? hp) with k | k
    · exact .inl ⟨k, wI ndP hp hu k⟩
    · obtain ⟨c, e⟩ := wx (n := s.heap.objs.size + 1) k
      refine .inr ⟨.inl k, c, e, ?_⟩
      have q := x.cell y c e
      rw [wR ndP hp hu (by show scope.names.lookup y ≠ _; rw [k]; decide)] at q
      exact q
  · exact e0.hok.fresh (Nat.le_of_lt (x.above y c (PySem.mem_of_lookup h)))
  · unfold vF
    show _ = N.length
    rw [List.length_append, List.length_map, List.length_replicate]
    omega
theorem qFr {CX : CXT} {P : Program} {w : World} {K : PySem.W.Frag} {mg : Str → Option Value} {base : Heap} {k : Nat} {f : Addr} {name qual : Str} {params : Arguments} {body : List Stmt} {scope : Scope} {dV kV doc pm cdv ct oc : Value} {an od : Option Addr}
    {osl : Array (Option Value)} {N ps : List Str} {sp : Sp} (lk : K.lookup f = some ⟨oc, od, .func (PySem.W.fnOf name qual params body scope dV kV doc pm an cdv ct), osl⟩) (hcd : PySem.W.codeIn K cdv qual = true) (S : qV N ps scope)
    (len : ∀ vs H Q E, sp vs H Q E → vs.length = ps.length)
    (hbody : ∀ (A : Around) (outer : List Env) (s : Shared) (H : Hp) (vs : List V) (Q : VK) (E : XK), Room k (A.deeper (envOfC qual scope s.heap.objs.size f cdv)) → sp vs H Q E →
      ∃ t, PSs (qCo CX P w K mg base N qual scope f cdv A outer s H E) body t ∧ t { nx := fun _ H' => Q .non H', rt := Q } (vF N vs) H) :
    FnOk P w K mg base CX (k + 1) f (PySem.W.fnOf name qual params body scope dV kV doc pm an cdv ct) ps sp := by
  refine ⟨len, fun A outer s H args us vs Q E hr e0 hb r hsp => ?_⟩
  have hl := len _ _ _ _ hsp
  have KX : K.In s.heap := e0.mod.kin.keeps fun b o e => (e0.bs b o e).1
  have lim : s.heap.NoLimit := e0.mod.nolimit.keeps fun b o e => (e0.bs b o e).1
  have hkind : ∀ y ∈ ps.zip us, scope.names.lookup y.1 = some .local ∨ (scope.names.lookup y.1 = some .cell ∧ ((cellsFrom (s.heap.objs.size + 1) scope.names []).lookup y.1).isSome = true) := fun ⟨n, v⟩ hy => by
    rcases S.par n (List.of_mem_zip hy).1 with q | q
    · exact .inl q
    · exact .inr ⟨q, PySem.W.cellsFrom_some _ _ _ (.inl q)⟩
  refine codeAny_call_function hr.depth (KX _ _ lk) rfl S.co S.gen rfl (PySem.W.codeRec_of KX hcd) (hb _ _ _ _ ?_)
  refine wpAny_newFunctionEnv_cells S.kind hkind fun env he s1 x => ?_
  subst he
  refine ⟨lim.keeps x.toInCall.keep, codeAny_func ?_⟩
  obtain ⟨t, ht, hq⟩ := hbody A outer s H vs Q E (hr.deeper _) hsp
  have I : Inv (qCo CX P w K mg base N qual scope f cdv A outer s H E) [] (vF N vs) H s1 := qCa S hr.hd e0 hl r x
  refine wpAny_mono (ht [] s1 (vF N vs) H _ I hq) (fun fl s' hs => ?_) fun e s' hs => hs
  have fin : ∀ {σ' : St} {H' : Hp} {v : V} {u : Value}, Inv (qCo CX P w K mg base N qual scope f cdv A outer s H E) [] σ' H' s' → RelV v u → Q v H' → CE outer P w H s Q u s' :=
    fun {σ' H' v u} J rv q => ⟨v, H', J.os, J.bare, J.base, J.hok, rv, q⟩
  cases fl with
  | ret u =>
    obtain ⟨v, σ', H', J, rv, q⟩ := hs
    exact fin J rv q
  | next =>
    obtain ⟨σ', H', J, q⟩ := hs
    exact fin (v := V.non) (u := Value.none) J rfl q
  | brk =>
    obtain ⟨_, _, _, q⟩ := hs
    exact False.elim q
  | cont =>
    obtain ⟨_, _, _, q⟩ := hs
    exact False.elim q
end L2
namespace L2
open PySem PySem.Spec PyProof.Rows
section
variable {X : Cx} {x : Str} {p pos : Pos} {e : Expr} {es : List Expr} {t : TA} {id T : String} {r : List V → Hp → VK → Prop}
def tCB (r : List V → Hp → VK → Prop) (t : TA) : TE := fun σ H Q => t σ H fun vs H1 => r vs H1 Q
theorem qZ (hc : CallR X (.builtin id) r) (hg : Gl X x) (hm : X.mg x = none) (hv : bootBuiltins x = some (.builtin id)) (ha : PA X (e :: es) t) (hn : x ≠ "__name__" := by decide) (hdb : (x == ("__debug__" : Str)) = false := by decide)
    (he : starEach (e :: es) X.env = (false, eval e X.env) :: starEach es X.env := by rfl) (hpl : (backTo pos (starEach es X.env)).any (·.1) = false := by rfl) : PE X (.Call (.Name x p) (e :: es) [] pos) (tCB r t) := by
  intro pins s σ H Q I h
  refine wpAny_Call_Name_kw (wO I hg hm hv ?_ hn hdb)
  exact PyProof.Rows.callWith_builtin1 (thn (ha pos pins s σ H _ I h) fun us s1 ⟨vs, H1, I1, r1, q1⟩ => hc pins s1 σ H1 vs us Q I1 r1 q1) he hpl
theorem qB0 (hc : CallR X (.type T) r) (hg : Gl X x) (hm : X.mg x = none) (hv : bootBuiltins x = some (.type T)) (ha : PA X (e :: es) t) (hn : x ≠ "__name__" := by decide) (hdb : (x == ("__debug__" : Str)) = false := by decide)
    (he : starEach (e :: es) X.env = (false, eval e X.env) :: starEach es X.env := by rfl) (hpl : (backTo pos (starEach es X.env)).any (·.1) = false := by rfl) : PE X (.Call (.Name x p) (e :: es) [] pos) (tCB r t) := by
  intro pins s σ H Q I h
  refine wpAny_Call_Name_kw (wO I hg hm hv ?_ hn hdb)
  exact PyProof.Rows.callWith_type1 (thn (ha pos pins s σ H _ I h) fun us s1 ⟨vs, H1, I1, r1, q1⟩ => hc pins s1 σ H1 vs us Q I1 r1 q1) he hpl
end
end L2
namespace HT
open PySem PyProof.Rows
section
open PySem.SeqAt
open PySem.AutoSeq1 (wpAny_loadPart')
open PySem.MeetsSeq PySem.MeetsSeq2 PySem.MeetsSeq3
end
section
variable {prog : Program} {w : World} {A : Around} {E : Value → Shared → Prop} {s : Shared}
theorem cat_tup {t b : Addr} {vs ws : List Value} {Q : Value → Shared → Prop} (ht : IsTup s.heap t vs.toArray) (hb : IsTup s.heap b ws.toArray) (hv : vs ≠ [])
    (h1 : ws = [] → Q (.ref t) s) (h2 : ws ≠ [] → Q (.ref s.heap.objs.size) { s with heap := s.heap.push { cls := .type "tuple", data := .seq (vs ++ ws).toArray } })
    (hsz : vs.length + ws.length ≤ sizeLine) : wpAny (model prog w) A (binaryOp .Add (.ref t) (.ref b)) Q E s := by
  obtain ⟨⟨cls, dd, data, sl⟩, ho, hc, n, hd⟩ := id ht
  obtain ⟨⟨cls2, dd2, data2, sl2⟩, ho2, hc2, n2, hd2⟩ := id hb
  simp only at hc hd hc2 hd2
  subst hc hd hc2 hd2
  have e : vs.toArray ++ ws.toArray = (vs ++ ws).toArray := by simp
  by_cases hw : ws = []
  · exact concat_meets ⟨_, ho, rfl⟩ ⟨_, ho2, rfl⟩ noFill_tuple_add seq_tuple_add PySem.F.slot_tuple_add PySem.F.entry_tuple_add (PySem.F.args_tuple_add_2 _ _)
      (tuple_addW1 t b vs.toArray ws.toArray n n2 dd dd2 sl sl2 (by simpa using hv) (by simp [hw])) ⟨ho, ho2, h1 hw⟩
  · refine concat_meets ⟨_, ho, rfl⟩ ⟨_, ho2, rfl⟩ noFill_tuple_add seq_tuple_add PySem.F.slot_tuple_add PySem.F.entry_tuple_add (PySem.F.args_tuple_add_2 _ _)
      (tuple_addW2 t b vs.toArray ws.toArray n n2 dd dd2 sl sl2 (by simpa using hv) (by simpa using hw) (by rw [List.size_toArray, List.size_toArray]; exact hsz)) ⟨ho, ho2, ?_⟩
    rw [e]
    exact h2 hw
def sIx (n d : Nat) : Option Int → Nat
  | none => d
  | some v => if v < 0 then (v + (n : Int)).toNat else min v.toNat n
theorem sIx_nat (n d k : Nat) : sIx n d (some (k : Int)) = min k n := by
  show (if (k : Int) < 0 then ((k : Int) + (n : Int)).toNat else min (k : Int).toNat n) = min k n
  rw [if_neg (by omega), Int.toNat_natCast]
theorem qFu (n d : Nat) (hd : d ≤ n) (o : Option Int) : sIx n d o ≤ n := by
  cases o with
  | none => exact hd
  | some v =>
    show (if v < 0 then (v + (n : Int)).toNat else min v.toNat n) ≤ n
    by_cases hv : v < 0
    · rw [if_pos hv]; omega
    · rw [if_neg hv]; exact Nat.min_le_right _ _
theorem qBe (v : Int) (n d : Nat) : (if v < 0 then max (v + (n : Int)) 0 else min v (n : Int)) = ((sIx n d (some v) : Nat) : Int) := by
  show (if v < 0 then max (v + (n : Int)) 0 else min v (n : Int)) = (((if v < 0 then (v + (n : Int)).toNat else min v.toNat n) : Nat) : Int)
  by_cases hv : v < 0
  · simp only [if_pos hv]; omega
  · simp only [if_neg hv]; omega
theorem qAv (lo hi : Option Int) (n : Nat) : Builtin.Slice.sliceAdjust lo hi 1 (n : Int) = (((sIx n 0 lo : Nat) : Int), ((sIx n n hi : Nat) : Int)) := by
  have h1 : ¬ ((1 : Int) < 0) := by omega
  unfold Builtin.Slice.sliceAdjust
  simp only [h1, if_false]
  refine Prod.ext ?_ ?_
  · cases lo with
    | none => rfl
    | some v => exact qBe v n 0
  · cases hi with
    | none => rfl
    | some v => exact qBe v n n
theorem qBa (i j : Nat) : Builtin.Slice.slicePlaces (i : Int) (j : Int) 1 = j - i := by
  unfold Builtin.Slice.slicePlaces
  have h1 : (1 : Int) > 0 := by omega
  simp only [h1, if_true, Int.ediv_one]
  split <;> omega
theorem km {v : Value} {o : Option Int} {Q : Option Int → Shared → Prop} (p : IsPart v o) (h : Q o s) : wpAny (model prog w) A (Builtin.Slice.slicePartIndex v) Q E s := by
  cases p with
  | none => exact slicePart_none h
  | int i t => exact slicePart_int h
theorem zc {sl : Addr} {vl vu : Value} {lo hi : Option Int} {n : Nat} {Q : Int × Int × Nat → Shared → Prop} (hs : s.heap.IsSliceOf sl vl vu .none) (pl : IsPart vl lo) (pu : IsPart vu hi)
    (h : Q (((sIx n 0 lo : Nat) : Int), 1, sIx n n hi - sIx n 0 lo) s) : wpAny (model prog w) A (Builtin.Slice.sliceApplied (.ref sl) (pure (n : Int))) Q E s := by
  obtain ⟨os, hos, hcs, hds⟩ := id hs
  unfold Builtin.Slice.sliceApplied Builtin.Slice.sliceFields
  refine wpAny_bind (wpAny_bind (wpAny_field hos hds (x := vl) rfl (wpAny_bind (wpAny_field hos hds (x := vu) rfl (wpAny_bind (wpAny_field hos hds (x := .none) rfl (wpAny_pure ?_)))))))
  refine wpAny_bind (slicePart_none ?_)
  show wpAny _ _ (if ((1 : Int) == 0) = true then _ else _) _ _ s
  rw [if_neg (by decide)]
  refine wpAny_bind (km pl (wpAny_bind (km pu (wpAny_bind (wpAny_pure ?_)))))
  show wpAny _ _ (match Builtin.Slice.sliceAdjust lo hi 1 (n : Int) with | (lo, hi) => pure (lo, (1 : Int), Builtin.Slice.slicePlaces lo hi 1)) _ _ s
  rw [qAv lo hi n]
  show wpAny _ _ (pure (((sIx n 0 lo : Nat) : Int), (1 : Int), Builtin.Slice.slicePlaces ((sIx n 0 lo : Nat) : Int) ((sIx n n hi : Nat) : Int) 1)) _ _ s
  rw [qBa]
  exact wpAny_pure h
theorem qC9 (xs : Array Value) (i k : Nat) : ((List.range k).filterMap fun (m : Nat) => xs[((i : Int) + (m : Int) * 1).toNat]?).toArray = ((xs.toList.drop i).take k).toArray := by
  have e : (fun (m : Nat) => xs[((i : Int) + (m : Int) * 1).toNat]?) = fun m => xs[i + m]? := by
    funext m
    have : ((i : Int) + (m : Int) * 1).toNat = i + m := by omega
    rw [this]
  rw [e]
  have := pick_run xs i k
  rw [List.filterMap_map] at this
  have e2 : ((fun x => xs[x]?) ∘ fun x => i + x) = fun m => xs[i + m]? := rfl
  rw [e2] at this
  rw [this]
theorem getItem_tuple_cut {t sl : Addr} {items : Array Value} {vl vu : Value} {lo hi : Option Int} {Q : Value → Shared → Prop} (ht : IsTup s.heap t items) (hs : s.heap.IsSliceOf sl vl vu .none) (pl : IsPart vl lo) (pu : IsPart vu hi)
    (hw : ¬ (sIx items.size 0 lo = 0 ∧ sIx items.size items.size hi = items.size))
    (h : Q (.ref s.heap.objs.size) { s with heap := s.heap.push { cls := .type "tuple", data := .seq ((items.toList.drop (sIx items.size 0 lo)).take (sIx items.size items.size hi - sIx items.size 0 lo)).toArray } })
    (hsz : items.size ≤ sizeLine) : wpAny (model prog w) A (getItem (.ref t) (.ref sl)) Q E s := by
  have htake : sizeOk (.seq ((items.toList.drop (sIx items.size 0 lo)).take (sIx items.size items.size hi - sIx items.size 0 lo)).toArray) := by
    show ((items.toList.drop (sIx items.size 0 lo)).take (sIx items.size items.size hi - sIx items.size 0 lo)).toArray.size ≤ sizeLine
    rw [List.size_toArray, List.length_take, List.length_drop, Array.length_toList]
    omega
  have hj : sIx items.size items.size hi ≤ items.size := qFu _ _ (Nat.le_refl _) hi
  obtain ⟨os, hos, hcs, hds⟩ := id hs
  have hTs : s.TypeIs (.ref sl) "slice" := ⟨os, hos, hcs⟩
  unfold getItem
  try with_reducible refine wpAny_holding ?_
  first | refine wpAny_bind (wpAny_pure ?_) | skip
  refine wpAny_bind (wpAny_sequenceKey ht.typeIs (by decide) ?_)
  refine wpAny_bind (wpAny_callSpecial?_slot (name := Str.ofString "__getitem__") ht.typeIs PyProof.Rows.slot_tuple_getitem
    (wpAny_call_entry PyProof.Rows.slot_tuple_getitem ht.typeIs entry_tuple_getitem ?_ (args_tuple_getitem _ _)))
  show wpAny _ _ (Builtin.Tuple.tupleItemsOf (.ref t) >>= _) _ _ s
  refine wpAny_bind (tupleItemsOf_ ht ?_)
  refine wpAny_bind (wpAny_typeOf hTs ?_)
  rw [if_pos (by decide)]
  refine wpAny_bind (zc hs pl pu ?_)
  have hno : ¬ ((((sIx items.size 0 lo : Nat) : Int) == 0 && (1 : Int) == 1 && (sIx items.size items.size hi - sIx items.size 0 lo) == items.size) = true) := by
    intro q
    rw [Bool.and_eq_true, Bool.and_eq_true] at q
    have q1 : ((sIx items.size 0 lo : Nat) : Int) = 0 := eq_of_beq q.1.1
    have q2 : sIx items.size items.size hi - sIx items.size 0 lo = items.size := eq_of_beq q.2
    exact hw ⟨by omega, by omega⟩
  show wpAny _ _ (if (((sIx items.size 0 lo : Nat) : Int) == 0 && (1 : Int) == 1 && (sIx items.size items.size hi - sIx items.size 0 lo) == items.size) = true then _ else _) _ _ s
  rw [if_neg hno, qC9]
  first
    | exact wpAny_bind (m := Builtin.Tuple.tupleExact _) (wpAny_newObj_type (wpAny_pure ⟨_, rfl, wpAny_pure h⟩) htake)
    | exact wpAny_bind (m := Builtin.Tuple.tupleExact _) (wpAny_newObj_type (wpAny_bind (wpAny_pure (wpAny_pure ⟨_, rfl, wpAny_pure h⟩))) htake)
    | exact wpAny_bind (wpAny_bind (m := Builtin.Tuple.tupleExact _) (wpAny_newObj_type (wpAny_pure (wpAny_pure ⟨_, rfl, wpAny_pure h⟩)) htake))
    | exact wpAny_bind (wpAny_bind (m := Builtin.Tuple.tupleExact _) (wpAny_newObj_type (wpAny_pure ⟨_, rfl, wpAny_pure h⟩) htake))
end
end HT
namespace L2
open PySem PySem.Spec PyProof.Rows
abbrev TO := St → Hp → (Option Int → Hp → Prop) → Prop
def PO (X : Cx) (e : Option Expr) (t : TO) : Prop :=
  ∀ (pins : List (Addr × Obj)) (s : Shared) (σ : St) (H : Hp) (Q : Option Int → Hp → Prop), Inv X pins σ H s → t σ H Q →
    wpAny (model X.prog X.w) X.A (evalPart e X.env) (fun u s' => ∃ o H', Inv X pins σ H' s' ∧ IsPart u o ∧ Q o H') X.xe s
def qD5 : TO := fun _ H Q => Q none H
def qG5 (t : TE) : TO := fun σ H Q => t σ H fun x H1 => ∃ i, x = .int i ∧ Q (some i) H1
section
variable {X : Cx} {e : Expr} {te : TE} {lo hi : Option Expr} {tl th : TO} {pos p2 : Pos}
theorem wr : PO X none qD5 := by
  intro pins s σ H Q I h
  rw [evalPart_none]
  exact wpAny_pure ⟨none, H, I, .none, h⟩
theorem xz (h : PE X e te) : PO X (some e) (qG5 te) := by
  intro pins s σ H Q I hw
  rw [evalPart_some]
  refine thn (h pins s σ H _ I hw) fun u s1 ⟨x, H1, I1, r1, q1⟩ => ?_
  obtain ⟨i, rfl, q⟩ := q1
  obtain ⟨t, rfl⟩ := r1
  exact ⟨some i, H1, I1, .int i t, q⟩
def SlR (X : Cx) (r : V → Option Int → Option Int → Hp → VK → Prop) : Prop :=
  ∀ (pins : List (Addr × Obj)) (s : Shared) (σ : St) (H : Hp) (x : V) (v vl vu : Value) (lo hi : Option Int) (sl : Addr) (Q : VK), Inv X pins σ H s → RelV x v → s.heap.IsSliceOf sl vl vu .none → IsPart vl lo → IsPart vu hi → r x lo hi H Q →
    ∃ T id, typeLookup (.type T) "__getitem__" = pure (some (.builtin id)) ∧ s.TypeIs v T ∧ wpAny (model X.prog X.w) X.A (getItem v (.ref sl)) (EP X pins σ Q) X.xe s
theorem SlR.or {r r' : V → Option Int → Option Int → Hp → VK → Prop} (h : SlR X r) (h' : SlR X r') : SlR X (fun x lo hi H Q => r x lo hi H Q ∨ r' x lo hi H Q) := by
  intro pins s σ H x v vl vu lo hi sl Q I rx hs pl pu q
  rcases q with q | q
  · exact h pins s σ H x v vl vu lo hi sl Q I rx hs pl pu q
  · exact h' pins s σ H x v vl vu lo hi sl Q I rx hs pl pu q
def tSl (r : V → Option Int → Option Int → Hp → VK → Prop) (te : TE) (tl th : TO) : TE := fun σ H Q => te σ H fun x H1 => tl σ H1 fun l H2 => th σ H2 fun u H3 => r x l u H3 Q
theorem zC {r : V → Option Int → Option Int → Hp → VK → Prop} (hr : SlR X r) (he : PE X e te) (hl : PO X lo tl) (hu : PO X hi th) : PE X (.Subscript e (.Slice lo hi none p2) pos) (tSl r te tl th) := by
  intro pins s σ H Q I h
  refine Subscript_ (thn (he pins s σ H _ I h) fun v s1 ⟨x, H1, I1, r1, q1⟩ => ?_)
  refine wpAny_Slice (thn (hl pins s1 σ H1 _ I1 q1) fun vl s2 ⟨l, H2, I2, pl, q2⟩ => thn (hu pins s2 σ H2 _ I2 q2) fun vu s3 ⟨u, H3, I3, pu, q3⟩ => ?_)
  rw [evalPart_none]
  refine wpAny_pure ?_
  have I4 : Inv X pins σ H3 { s3 with heap := s3.heap.push { cls := .type "slice", data := .fields #[vl, vu, .none] } } := I3.kept (t' := s3.toks) fun b ob q => Heap.get?_push_of_some _ q
  obtain ⟨T, id, hT, ht, hg⟩ := hr pins { s3 with heap := s3.heap.push { cls := .type "slice", data := .fields #[vl, vu, .none] } } σ H3 x v vl vu l u s3.heap.objs.size Q I4 r1 (Heap.IsSliceOf.new ..) pl pu q3
  show wpAny (model X.prog X.w) X.A (subscriptTail e (.Slice lo hi none p2) v (.ref s3.heap.objs.size)) (EP X pins σ Q) X.xe { s3 with heap := s3.heap.push { cls := .type "slice", data := .fields #[vl, vu, .none] } }
  exact tail_any (ops := [.ref s3.heap.objs.size, v]) ht hT hg (by with_unfolding_all rfl)
def v8 (xs : List V) (lo hi : Option Int) : List V := (xs.drop (HT.sIx xs.length 0 lo)).take (HT.sIx xs.length xs.length hi - HT.sIx xs.length 0 lo)
theorem z9 (xs : List V) (lo hi : Option Int) : (v8 xs lo hi).length ≤ xs.length := by
  unfold v8
  rw [List.length_take, List.length_drop]
  omega
def qHv (K : PySem.W.Frag) : V → Option Int → Option Int → Hp → VK → Prop := fun x lo hi H Q => ∃ a xs, x = .ref a ∧ SqT K H a xs ∧
  ¬ (HT.sIx xs.length 0 lo = 0 ∧ HT.sIx xs.length xs.length hi = xs.length) ∧ ∀ p, H p = none → Q (.ref p) (upd H p (.tup (v8 xs lo hi)))
theorem qDy : SlR X (qHv X.K) := by
  intro pins s σ H x v vl vu lo hi sl Q I rx hs pl pu h
  obtain ⟨a, xs, rfl, hx, hw, q⟩ := h
  cases rx
  obtain ⟨its, r, ht, hz⟩ := I.tuple hx
  have hlen : its.toArray.size = xs.length := by rw [List.size_toArray]; exact r.length.symm
  refine ⟨"tuple", _, PyProof.Rows.slot_tuple_getitem.lookup, ht.typeIs, ?_⟩
  refine HT.getItem_tuple_cut ht hs pl pu (by rw [hlen]; exact hw) ?_ (by rw [hlen]; exact hz)
  rw [hlen]
  refine ⟨.ref s.heap.objs.size, _, I.laid (t' := s.toks) (o := .tup (v8 xs lo hi)) (fun b ob q => Heap.get?_push_of_some _ q) (Nat.le_refl _) ?_, rfl, q _ (I.hok.fresh (Nat.le_refl _))⟩
  exact ⟨Nat.le_trans (z9 xs lo hi) hz, _, (r.drop (HT.sIx xs.length 0 lo)).take (HT.sIx xs.length xs.length hi - HT.sIx xs.length 0 lo), IsTup.new _ _⟩
def qGq (K : PySem.W.Frag) : R2 := fun x y H Q => ∃ a b xs ys, x = .ref a ∧ y = .ref b ∧ SqT K H a xs ∧ SqT K H b ys ∧ xs ≠ [] ∧ xs.length + ys.length ≤ sizeLine ∧
  (ys = [] → Q (.ref a) H) ∧ (ys ≠ [] → ∀ p, H p = none → Q (.ref p) (upd H p (.tup (xs ++ ys))))
theorem Vals.nil_iff {xs : List V} {us : List Value} (r : Vals xs us) : us = [] ↔ xs = [] := by
  cases r with
  | nil => simp
  | cons _ _ => simp
theorem wt : OpR X (binaryOp .Add) (qGq X.K) := by
  intro pins s σ H x y v u Q I rx ry h
  obtain ⟨a, b, xs, ys, rfl, rfl, ha, hb, hx, hz, q1, q2⟩ := h
  cases rx
  cases ry
  obtain ⟨its, r1, p1, _⟩ := I.tuple ha
  obtain ⟨its2, r2, p2, _⟩ := I.tuple hb
  refine HT.cat_tup p1 p2 (fun z => hx (r1.nil_iff.mp z)) (fun z => ⟨.ref a, H, I, rfl, q1 (r2.nil_iff.mp z)⟩) (fun z => ?_) (by rw [← r1.length, ← r2.length]; exact hz)
  refine ⟨.ref s.heap.objs.size, _, I.laid (t' := s.toks) (o := .tup (xs ++ ys)) (fun b ob q => Heap.get?_push_of_some _ q) (Nat.le_refl _) ?_, rfl, q2 (fun w => z (r2.nil_iff.mpr w)) _ (I.hok.fresh (Nat.le_refl _))⟩
  exact ⟨by rw [List.length_append]; exact hz, _, r1.append r2, IsTup.new _ _⟩
end
end L2
namespace L2
open PySem PySem.Spec PyProof.Rows
def ixN (n : Nat) (i : Int) : Option Nat := if 0 ≤ i then (if i < n then some i.toNat else none) else if -(n : Int) ≤ i then some (i + n).toNat else none
def atI {α : Type} (xs : List α) (i : Int) : Option α := (ixN xs.length i).bind fun j => xs[j]?
theorem qD7 {n : Nat} {i : Int} {j : Nat} (h : ixN n i = some j) : seqIndex? i n = some j ∧ j < n ∧ -(n : Int) ≤ i ∧ i < n := by
  unfold ixN at h
  by_cases h0 : 0 ≤ i
  · rw [if_pos h0] at h
    by_cases h1 : i < n
    · rw [if_pos h1] at h
      have e : i.toNat = j := Option.some.inj h
      exact ⟨by rw [seqIndex_of h0 h1, e], by omega, by omega, h1⟩
    · rw [if_neg h1] at h; cases h
  · rw [if_neg h0] at h
    by_cases h1 : -(n : Int) ≤ i
    · rw [if_pos h1] at h
      have e : (i + n).toNat = j := Option.some.inj h
      exact ⟨by rw [seqIndex_neg (by omega) h1, e], by omega, h1, by omega⟩
    · rw [if_neg h1] at h; cases h
theorem wZ {α : Type} {xs : List α} {i : Int} {v : α} (h : atI xs i = some v) : ∃ j, seqIndex? i xs.length = some j ∧ xs[j]? = some v ∧ j < xs.length ∧ -(xs.length : Int) ≤ i ∧ i < xs.length := by
  unfold atI at h
  cases e : ixN xs.length i with
  | none => rw [e] at h; cases h
  | some j =>
    rw [e] at h
    obtain ⟨h1, h2, h3, h4⟩ := qD7 e
    exact ⟨j, h1, h, h2, h3, h4⟩
theorem zN {α : Type} {xs : List α} {j : Nat} {v : α} (h : xs[j]? = some v) : atI xs (j : Int) = some v := by
  have hj : j < xs.length := (List.getElem?_eq_some_iff.mp h).1
  have e : ixN xs.length (j : Int) = some j := by
    unfold ixN
    rw [if_pos (by omega), if_pos (by omega)]; simp
  unfold atI; rw [e]; exact h
def qD6 (b : Expr) : Prop := ∀ o i, subscripted b false o i = operate [o, i] (getItem o i)
def IxR (X : Cx) (r : R2) : Prop :=
  ∀ (value slice : Expr) (pins : List (Addr × Obj)) (s : Shared) (σ : St) (H : Hp) (x y : V) (v u : Value) (Q : VK), Inv X pins σ H s → RelV x v → RelV y u → r x y H Q →
    subscripted slice false v u = operate [v, u] (getItem v u) → wpAny (model X.prog X.w) X.A (subscriptTail value slice v u) (EP X pins σ Q) X.xe s
def MtR (X : Cx) (id : String) (r : V → List V → Hp → VK → Prop) : Prop :=
  ∀ (pins : List (Addr × Obj)) (s : Shared) (σ : St) (H : Hp) (x : V) (xs : List V) (v : Value) (us : List Value) (Q : VK), Inv X pins σ H s → RelV x v → Vals xs us → r x xs H Q →
    wpAny (model X.prog X.w) X.A (call (.builtin id) (v :: us)) (EP X pins σ Q) X.xe s
section
variable {X : Cx} {a b : Expr} {ta tb : TE} {pos : Pos}
theorem IxR.or {r r' : R2} (h : IxR X r) (h' : IxR X r') : IxR X (fun x y H Q => r x y H Q ∨ r' x y H Q) := by
  intro value slice pins s σ H x y v u Q I rx ry q hs
  rcases q with q | q
  · exact h value slice pins s σ H x y v u Q I rx ry q hs
  · exact h' value slice pins s σ H x y v u Q I rx ry q hs
theorem MtR.or {id : String} {r r' : V → List V → Hp → VK → Prop} (h : MtR X id r) (h' : MtR X id r') : MtR X id (fun x xs H Q => r x xs H Q ∨ r' x xs H Q) := by
  intro pins s σ H x xs v us Q I rx rs q
  rcases q with q | q
  · exact h pins s σ H x xs v us Q I rx rs q
  · exact h' pins s σ H x xs v us Q I rx rs q
theorem qP {r : R2} (hr : IxR X r) (ha : PE X a ta) (hb : PE X b tb) (hs : qD6 b) : PE X (.Subscript a b pos) (tOp r ta tb) := by
  intro pins s σ H Q I h
  exact Subscript_ (qG3 ha hb I h fun v u s2 x y H2 I2 rx ry q => hr a b pins s2 σ H2 x y v u Q I2 rx ry q (hs _ _))
def qHr (K : PySem.W.Frag) : R2 := fun x y H Q => ∃ p xs i v, x = .ref p ∧ y = .int i ∧ SqL K H p xs ∧ atI xs i = some v ∧ Q v H
def qG6 (K : PySem.W.Frag) : R2 := fun x y H Q => ∃ p xs i v, x = .ref p ∧ y = .int i ∧ SqT K H p xs ∧ atI xs i = some v ∧ Q v H
def qH1 : R2 := fun x y H Q => ∃ z i c, x = .str z ∧ y = .int i ∧ z.length ≤ sizeLine ∧ atI z.cps.toList i = some c ∧ Q (.str ⟨#[c]⟩) H
theorem qh : IxR X (qHr X.K) := by
  intro value slice pins s σ H x y v u Q I rx ry h hs
  obtain ⟨p, xs, i, z, rfl, rfl, hq, he, q⟩ := h
  cases rx
  obtain ⟨t, rfl⟩ := ry
  obtain ⟨its, r, pl, hz⟩ := I.list hq
  obtain ⟨j, h1, h2, h3, h4, h5⟩ := wZ he
  obtain ⟨w, ew, rw'⟩ := r.get h2
  have hl := r.length
  have hn := wF
  have fin : EP X pins σ Q w s := ⟨z, H, I, rw', q⟩
  by_cases h0 : 0 ≤ i
  · have hj : i.toNat = j := by
      rw [seqIndex_of h0 h5] at h1
      exact Option.some.inj h1
    exact item_listR pl.isList h0 (by omega) (by rw [hj]; simpa using ew) fin hs
  · have hj : (i + (its.toArray.size : Int)).toNat = j := by
      rw [seqIndex_neg (by omega) h4] at h1
      rw [List.size_toArray, ← hl]
      exact Option.some.inj h1
    exact subscriptTail_builtinR (x := w) pl.isList.typeIs slot_list_getitem.lookup
      (wpAny_getItem_list_neg (Q := fun r s' => r = w ∧ EP X pins σ Q r s') pl.isList (by omega) (by rw [List.size_toArray] <;> omega) (by omega) (by rw [hj]; simpa using ew) ⟨rfl, fin⟩) hs
theorem qN : IxR X (qG6 X.K) := by
  intro value slice pins s σ H x y v u Q I rx ry h hs
  obtain ⟨p, xs, i, z, rfl, rfl, hq, he, q⟩ := h
  cases rx
  obtain ⟨t, rfl⟩ := ry
  obtain ⟨its, r, pl, hz⟩ := I.tuple hq
  obtain ⟨j, h1, h2, h3, h4, h5⟩ := wZ he
  obtain ⟨w, ew, rw'⟩ := r.get h2
  have hl := r.length
  have hn := wF
  have fin : EP X pins σ Q w s := ⟨z, H, I, rw', q⟩
  exact subscriptTail_builtinR (x := w) pl.typeIs slot_tuple_getitem.lookup
    (getItem_tuple (j := j) (Q := fun r s' => r = w ∧ EP X pins σ Q r s') pl (by omega) (by omega) (by rw [List.size_toArray, ← hl]; exact h1) (by simpa using ew) ⟨rfl, fin⟩) hs
theorem qFs : IxR X qH1 := by
  intro value slice pins s σ H x y v u Q I rx ry h hs
  obtain ⟨z, i, c, rfl, rfl, hz, he, q⟩ := h
  obtain ⟨t, rfl⟩ := rx
  obtain ⟨t', rfl⟩ := ry
  obtain ⟨j, h1, h2, h3, h4, h5⟩ := wZ he
  have hl : z.cps.toList.length = z.length := by simp [Str.length]
  rw [hl] at h1 h4 h5
  have hn := wF
  exact tail_any (typeIs_str s z t) slot_str_getitem.lookup (getItem_str (c := c) (by
    have e1 : decide (i < -(2 ^ 63 : Int)) = false := decide_eq_false (by omega)
    have e2 : decide (i ≥ 2 ^ 63) = false := decide_eq_false (by omega)
    rw [e1, e2, Bool.or_false]) (by rw [h1]; simpa using h2) ⟨.str ⟨#[c]⟩, H, I.tok _, ⟨_, rfl⟩, q⟩) hs
theorem Inv.lst {pins : List (Addr × Obj)} {σ : St} {H : Hp} {s : Shared} {p : Addr} {xs : List V} (I : Inv X pins σ H s) (h : H p = some (.lst xs)) :
    ∃ (its : List Value) (n : Nat), Vals xs its ∧ s.heap.get? p = some { cls := .type "list", data := .seq its.toArray n } ∧ xs.length ≤ sizeLine := by
  obtain ⟨z, its, n, r, e⟩ := I.hok p _ h
  exact ⟨its, n, r, e, z⟩
theorem wL (lo hi : Option Int) (n : Nat) : (sliceBounds lo hi none n).1 = ((HT.sIx n 0 lo : Nat) : Int) ∧ (sliceBounds lo hi none n).2.1 = ((HT.sIx n n hi : Nat) : Int) ∧ (sliceBounds lo hi none n).2.2 = 1 := by
  refine ⟨?_, ?_, rfl⟩
  · cases lo with
    | none => simp [sliceBounds, HT.sIx]
    | some i =>
      simp only [sliceBounds, HT.sIx, Option.getD_none, show (1 : Int) > 0 by decide, if_true]
      by_cases h : i < 0
      · simp only [h, if_true] <;> omega
      · simp only [h, if_false] <;> omega
  · cases hi with
    | none => simp [sliceBounds, HT.sIx]
    | some i =>
      simp only [sliceBounds, HT.sIx, Option.getD_none, show (1 : Int) > 0 by decide, if_true]
      by_cases h : i < 0
      · simp only [h, if_true] <;> omega
      · simp only [h, if_false] <;> omega
theorem vQ (its : List Value) (lo hi : Option Int) : slicePick its.toArray lo hi none = ((its.drop (HT.sIx its.length 0 lo)).take (HT.sIx its.length its.length hi - HT.sIx its.length 0 lo)).toArray := by
  obtain ⟨h1, h2, h3⟩ := wL lo hi its.toArray.size
  unfold slicePick
  rw [h1, h2, h3]
  simp only [sliceRange_one, pick_run, List.size_toArray] <;> rfl
def qHs (K : PySem.W.Frag) : V → Option Int → Option Int → Hp → VK → Prop := fun x lo hi H Q => ∃ a xs, x = .ref a ∧ SqL K H a xs ∧ ∀ p, H p = none → Q (.ref p) (upd H p (.lst (v8 xs lo hi)))
theorem wp : SlR X (qHs X.K) := by
  intro pins s σ H x v vl vu lo hi sl Q I rx hs pl pu h
  obtain ⟨a, xs, rfl, hx, q⟩ := h
  cases rx
  obtain ⟨its, r, ht, hz⟩ := I.list hx
  have hlen := r.length
  refine ⟨"list", _, slot_list_getitem.lookup, ht.isList.typeIs, ?_⟩
  refine wpAny_getItem_list_slice ht.isList hs pl pu .none (by simp) ?_ (by rw [List.size_toArray] <;> omega)
  rw [vQ, ← hlen]
  refine ⟨.ref s.heap.objs.size, _, I.laid (t' := s.toks) (o := .lst (v8 xs lo hi)) (fun b ob q => Heap.get?_push_of_some _ q) (Nat.le_refl _) ?_, rfl, q _ (I.hok.fresh (Nat.le_refl _))⟩
  exact ⟨Nat.le_trans (z9 xs lo hi) hz, _, 0, (r.drop (HT.sIx xs.length 0 lo)).take (HT.sIx xs.length xs.length hi - HT.sIx xs.length 0 lo), Heap.get?_push_size _ rfl⟩
def j3 : V → Bool
  | .non => true
  | .bl _ => true
  | .int _ => true
  | .str _ => true
  | _ => false
def eqV : V → V → Bool
  | .non, .non => true
  | .bl a, .bl b => a == b
  | .bl a, .int b => (if a then 1 else 0) == b
  | .int a, .bl b => a == (if b then 1 else 0)
  | .int a, .int b => a == b
  | .str a, .str b => a == b
  | _, _ => false
theorem vj {A : Around} {s : Shared} {y x : V} {u v : Value} (ry : RelV y u) (rx : RelV x v) (fy : j3 y = true) (fx : j3 x = true) : SeqAt.EqAt A s u v (eqV y x) := by
  cases y with
  | non =>
    cases ry
    cases x with
    | non => cases rx; exact SeqAt.EqAt.same _
    | bl b => cases rx; exact SeqAt.EqAt.none_bool b
    | int b => obtain ⟨t, rfl⟩ := rx; exact SeqAt.EqAt.none_int b t
    | str b => obtain ⟨t, rfl⟩ := rx; exact SeqAt.EqAt.none_str b t
    | _ => exact absurd (show false = true from fx) Bool.false_ne_true
  | bl a =>
    cases ry
    cases x with
    | non => cases rx; exact SeqAt.EqAt.bool_none a
    | bl b => cases rx; exact SeqAt.EqAt.bool_bool a b
    | int b => obtain ⟨t, rfl⟩ := rx; exact SeqAt.EqAt.bool_int a b t
    | str b => obtain ⟨t, rfl⟩ := rx; exact SeqAt.EqAt.bool_str a b t
    | _ => exact absurd (show false = true from fx) Bool.false_ne_true
  | int a =>
    obtain ⟨t', rfl⟩ := ry
    cases x with
    | non => cases rx; exact SeqAt.EqAt.int_none a t'
    | bl b => cases rx; exact SeqAt.EqAt.int_bool a t' b
    | int b => obtain ⟨t, rfl⟩ := rx; exact SeqAt.EqAt.int_int a t' b t
    | str b => obtain ⟨t, rfl⟩ := rx; exact SeqAt.EqAt.int_str a t' b t
    | _ => exact absurd (show false = true from fx) Bool.false_ne_true
  | str a =>
    obtain ⟨t', rfl⟩ := ry
    cases x with
    | non => cases rx; exact SeqAt.EqAt.str_none a t'
    | bl b => cases rx; exact SeqAt.EqAt.str_bool a t' b
    | int b => obtain ⟨t, rfl⟩ := rx; exact SeqAt.EqAt.str_int a t' b t
    | str b => obtain ⟨t, rfl⟩ := rx; exact SeqAt.EqAt.str_str a t' b t
    | _ => exact absurd (show false = true from fx) Bool.false_ne_true
  | _ => exact absurd (show false = true from fy) Bool.false_ne_true
def eqU (x : V) (u : Value) : Bool := match u with
  | .none => eqV .non x
  | .bool b => eqV (.bl b) x
  | .int i _ => eqV (.int i) x
  | .str z _ => eqV (.str z) x
  | _ => false
theorem qD3 {x y : V} {u : Value} (r : RelV y u) (f : j3 y = true) : eqU x u = eqV y x := by
  cases y with
  | non => cases r; rfl
  | bl b => cases r; rfl
  | int i => obtain ⟨t, rfl⟩ := r; rfl
  | str z => obtain ⟨t, rfl⟩ := r; rfl
  | _ => exact absurd (show false = true from f) Bool.false_ne_true
theorem kJ {x : V} : ∀ {xs : List V} {us : List Value}, Vals xs us → xs.all j3 = true → us.any (eqU x) = xs.any fun y => eqV y x
  | _, _, .nil, _ => rfl
  | y :: xs, u :: us, .cons r t, f => by
    rw [List.all_cons, Bool.and_eq_true] at f
    rw [List.any_cons, List.any_cons, qD3 r f.1, kJ t f.2]
theorem x8 {A : Around} {s : Shared} {x : V} {v : Value} (rx : RelV x v) (fx : j3 x = true) : ∀ {xs : List V} {us : List Value}, Vals xs us → xs.all j3 = true → ∀ u ∈ us, SeqAt.EqAt A s u v (eqU x u)
  | _, _, .nil, _ => fun u hu => by cases hu
  | y :: xs, u :: us, .cons r t, f => fun u' hu => by
    rw [List.all_cons, Bool.and_eq_true] at f
    rcases List.mem_cons.mp hu with rfl | hu
    · rw [qD3 r f.1]; exact vj r rx f.1 fx
    · exact x8 rx fx t f.2 u' hu
def inV (x : V) (xs : List V) : Bool := xs.any fun y => eqV y x
def rIn (K : PySem.W.Frag) (neg : Bool) : R2 := fun x y H Q => ∃ p xs, y = .ref p ∧ (SqL K H p xs ∨ SqT K H p xs) ∧ j3 x = true ∧ xs.all j3 = true ∧ Q (.bl (if neg then !inV x xs else inV x xs)) H
theorem qBd : OpR X (compareOp .In) (rIn X.K false) := by
  intro pins s σ H x y v u Q I rx ry h
  obtain ⟨p, xs, rfl, hq, fx, fs, q⟩ := h
  cases ry
  rcases hq with hq | hq
  · obtain ⟨its, r, pl, hz⟩ := I.list hq
    refine SeqAt.in_listAt (eqU x) pl.isList (fun w hw => x8 rx fx r fs w (by simpa using hw)) ⟨.bl _, H, I, rfl, ?_⟩
    rw [show its.toArray.any (eqU x) = its.any (eqU x) by simp, kJ r fs]
    exact q
  · obtain ⟨its, r, pl, hz⟩ := I.tuple hq
    refine SeqAt.in_tupleAt (eqU x) pl (fun w hw => x8 rx fx r fs w (by simpa using hw)) ⟨.bl _, H, I, rfl, ?_⟩
    rw [show its.toArray.any (eqU x) = its.any (eqU x) by simp, kJ r fs]
    exact q
theorem v0 : OpR X (compareOp .NotIn) (rIn X.K true) := by
  intro pins s σ H x y v u Q I rx ry h
  obtain ⟨p, xs, rfl, hq, fx, fs, q⟩ := h
  cases ry
  rcases hq with hq | hq
  · obtain ⟨its, r, pl, hz⟩ := I.list hq
    refine SeqAt.notIn_listAt (eqU x) pl.isList (fun w hw => x8 rx fx r fs w (by simpa using hw)) ⟨.bl _, H, I, rfl, ?_⟩
    rw [show its.toArray.any (eqU x) = its.any (eqU x) by simp, kJ r fs]
    exact q
  · obtain ⟨its, r, pl, hz⟩ := I.tuple hq
    refine SeqAt.notIn_tupleAt (eqU x) pl (fun w hw => x8 rx fx r fs w (by simpa using hw)) ⟨.bl _, H, I, rfl, ?_⟩
    rw [show its.toArray.any (eqU x) = its.any (eqU x) by simp, kJ r fs]
    exact q
theorem jI : CallR X (.builtin "len") (fun xs H Q => ∃ p ys, xs = [.ref p] ∧ (SqL X.K H p ys ∨ SqT X.K H p ys) ∧ Q (.int ys.length) H) := by
  intro pins s σ H xs us Q I r h
  obtain ⟨p, ys, rfl, hq, q⟩ := h
  obtain ⟨u, rfl, rx⟩ := qCl r
  cases rx
  have hn := wF
  rcases hq with hq | hq
  · obtain ⟨its, r', pl, hz⟩ := I.list hq
    have hlen := r'.length
    exact Calls.call_len_list pl.isList (by simp only [List.size_toArray] <;> omega) ⟨.int ys.length, H, I.tok _, ⟨s.toks + 1, by rw [List.size_toArray, hlen]⟩, q⟩
  · obtain ⟨its, r', pl, hz⟩ := I.tuple hq
    have hlen := r'.length
    exact len_tuple pl (by simp only [List.size_toArray] <;> omega) ⟨.int ys.length, H, I.tok _, ⟨s.toks + 1, by rw [List.size_toArray, hlen]⟩, q⟩
theorem za : CallR X (.builtin "len") (fun xs H Q => ∃ z, xs = [.str z] ∧ z.length ≤ sizeLine ∧ Q (.int z.length) H) := by
  intro pins s σ H xs us Q I r h
  obtain ⟨z, rfl, hz, q⟩ := h
  obtain ⟨u, rfl, t, rfl⟩ := qCl r
  have hn := wF
  exact len_str (by omega) ⟨.int z.length, H, I.tok _, ⟨_, rfl⟩, q⟩
theorem CallR.or {f : Value} {r r' : List V → Hp → VK → Prop} (h : CallR X f r) (h' : CallR X f r') : CallR X f (fun xs H Q => r xs H Q ∨ r' xs H Q) := by
  intro pins s σ H xs us Q I rs q
  rcases q with q | q
  · exact h pins s σ H xs us Q I rs q
  · exact h' pins s σ H xs us Q I rs q
theorem vp : CallR X (.type "list") (fun xs H Q => ∃ p ys, xs = [.ref p] ∧ (SqL X.K H p ys ∨ SqT X.K H p ys) ∧ ∀ l, H l = none → Q (.ref l) (upd H l (.lst ys))) := by
  intro pins s σ H xs us Q I r h
  obtain ⟨p, ys, rfl, hq, q⟩ := h
  obtain ⟨u, rfl, rx⟩ := qCl r
  cases rx
  have fin : ∀ (its : List Value), Vals ys its → ys.length ≤ sizeLine → ∀ (h' : Heap) (c' : Nat), (∀ b o', s.heap.get? b = some o' → h'.get? b = some o') →
      h'.get? s.heap.objs.size = some { cls := .type "list", dict := none, data := .seq its.toArray c', slots := #[] } → EP X pins σ Q (.ref s.heap.objs.size) { s with heap := h' } := fun its r' hz h' c' kp e =>
    ⟨.ref s.heap.objs.size, _, I.laid (t' := s.toks) kp (Nat.le_refl _) (show ObjOk X.prog X.w _ h' _ (.lst ys) from ⟨hz, its, c', r', e⟩), rfl, q _ (I.hok.fresh (Nat.le_refl _))⟩
  rcases hq with hq | hq
  · obtain ⟨its, r', pl, hz⟩ := I.list hq
    have hlen := r'.length
    obtain ⟨o, ho, hc, n, hd⟩ := pl.isList
    exact call_list_seq p (.inl rfl) ho hc hd (fun h' c' kp e => fin its r' hz h' c' kp e) (by simp only [List.size_toArray] <;> omega)
  · obtain ⟨its, r', pl, hz⟩ := I.tuple hq
    have hlen := r'.length
    obtain ⟨o, ho, hc, n, hd⟩ := pl
    exact call_list_seq p (.inr rfl) ho hc hd (fun h' c' kp e => fin its r' hz h' c' kp e) (by simp only [List.size_toArray] <;> omega)
def tyV (K : PySem.W.Frag) (T : String) (x : V) (H : Hp) : Prop := match x with
  | .str _ => T = "str"
  | .int _ => T = "int"
  | .ref p => (T = "list" ∧ ∃ xs, SqL K H p xs) ∨ (T = "tuple" ∧ ∃ o, K.lookup p = some o ∧ o.cls = .type "tuple" ∧ o.dict = none) ∨
      (T = "dict" ∧ ((∃ kvs, H p = some (.dK kvs)) ∨ ∃ kvs, H p = some (.dT kvs))) ∨ (T = "set" ∧ ∃ S n, H p = some (.set S n))
  | _ => False
theorem qD4 {pins : List (Addr × Obj)} {σ : St} {H : Hp} {s : Shared} {T : String} {x : V} {v : Value} (I : Inv X pins σ H s) (r : RelV x v) (ty : tyV X.K T x H) :
    s.TypeIs v T ∧ ∀ a, v = .ref a → ∃ ob, s.heap.get? a = some ob ∧ ob.dict = none := by
  cases x with
  | str z =>
    obtain ⟨t, rfl⟩ := r
    cases (show T = "str" from ty)
    exact ⟨typeIs_str s z t, fun _ e => nomatch e⟩
  | int i =>
    obtain ⟨t, rfl⟩ := r
    cases (show T = "int" from ty)
    exact ⟨typeIs_int s i t, fun _ e => nomatch e⟩
  | ref p =>
    cases r
    rcases ty with ⟨rfl, xs, hq⟩ | ⟨rfl, o, hk, hc, hd⟩ | ⟨rfl, hk⟩ | ⟨rfl, S, n, hk⟩
    · obtain ⟨its, _, pl, _⟩ := I.list hq
      refine ⟨pl.isList.typeIs, fun a e => ?_⟩
      cases e
      obtain ⟨o, n, e, c, hd, _⟩ := pl
      exact ⟨o, e, hd⟩
    · refine ⟨⟨o, I.kIn p o hk, hc⟩, fun a e => ?_⟩
      cases e
      exact ⟨o, I.kIn _ o hk, hd⟩
    · have z : ∃ o, s.heap.get? p = some o ∧ o.ExactDict := by
        rcases hk with ⟨kvs, hk⟩ | ⟨kvs, hk⟩
        · obtain ⟨_, _, _, _, o, _, _, e, ex, _⟩ := I.hok p _ hk
          exact ⟨o, e, ex⟩
        · obtain ⟨_, _, _, _, o, _, _, e, ex, _⟩ := I.hok p _ hk
          exact ⟨o, e, ex⟩
      obtain ⟨o, e, ex⟩ := z
      refine ⟨⟨o, e, ex.1⟩, fun a e2 => ?_⟩
      cases e2
      exact ⟨o, e, ex.2.1⟩
    · obtain ⟨o, _, _, _, e, ex, _⟩ := I.hok p _ hk
      refine ⟨⟨o, e, ex.1⟩, fun a e2 => ?_⟩
      cases e2
      exact ⟨o, e, ex.2.1⟩
  | _ => exact False.elim ty
def qHt (K : PySem.W.Frag) (T : String) (r : V → List V → Hp → VK → Prop) (to : TE) : TE := fun σ H Q => to σ H fun x H1 => tyV K T x H1 ∧ r x [] H1 Q
def tBM (K : PySem.W.Frag) (T : String) (r : V → List V → Hp → VK → Prop) (to : TE) (t : TA) : TE := fun σ H Q => to σ H fun x H1 => tyV K T x H1 ∧ t σ H1 fun xs H2 => r x xs H2 Q
variable {o e : Expr} {es : List Expr} {to : TE} {t : TA} {name : Str} {apos cpos : Pos} {T id : String} {r : V → List V → Hp → VK → Prop}
theorem qDs (pa : PlainAttrs T) (slot : Slot T name id) (hty : typeOf (.builtin id) = pure (.type "method_descriptor")) (hm : MtR X id r) (ho : PE X o to)
    (hbase : attributeBase o name X.env (eval o X.env) = eval o X.env := by rfl) (hline : (apos.endLine == cpos.line) = true := by rfl) : PE X (.Call (.Attribute o name apos) [] [] cpos) (qHt X.K T r to) := by
  intro pins s σ H Q I h
  refine wpAny_Call_method0_late hbase hline (thn (ho pins s σ H _ I h) fun v s1 ⟨x, H1, I1, r1, ty, q1⟩ => ?_)
  obtain ⟨h1, h2⟩ := qD4 I1 r1 ty
  exact ⟨T, id, pa, slot, hty, h1, h2, Calls.callWith_builtin rfl (PySem.evalArgs_none (hm pins s1 σ H1 x [] v [] Q I1 r1 .nil q1))⟩
theorem zu (pa : PlainAttrs T) (slot : Slot T name id) (hty : typeOf (.builtin id) = pure (.type "method_descriptor")) (hm : MtR X id r) (ho : PE X o to) (ha : PA X (e :: es) t)
    (hbase : attributeBase o name X.env (eval o X.env) = eval o X.env := by rfl)
    (hfew : ((backTo cpos (starEach (e :: es) X.env)).all (fun x => !x.1) && (backToKw cpos (keywordEach [] X.env)).all (fun x => x.1.isSome)
      && decide ((e :: es).length + ([] : List Keyword).length + (if ([] : List Keyword).isEmpty then 0 else 1) < 30)) = true := by rfl)
    (hline : (apos.endLine == cpos.line) = true := by rfl) (hs : starEach (e :: es) X.env = (false, eval e X.env) :: starEach es X.env := by rfl) (hplain : (backTo cpos (starEach es X.env)).any (·.1) = false := by rfl) :
    PE X (.Call (.Attribute o name apos) (e :: es) [] cpos) (tBM X.K T r to t) := by
  intro pins s σ H Q I h
  refine wpAny_Call_method_late hbase hfew hline rfl (thn (ho pins s σ H _ I h) fun v s1 ⟨x, H1, I1, r1, ty, q1⟩ => ?_)
  obtain ⟨h1, h2⟩ := qD4 I1 r1 ty
  refine ⟨T, id, pa, slot, hty, h1, h2, ?_⟩
  have hA := ha cpos pins s1 σ H1 _ I1 q1
  rw [hs] at hA ⊢
  refine Calls.callWith_builtin (by show (false || (backTo cpos (starEach es X.env)).any (·.1)) = false; rw [hplain] <;> rfl) (Calls.evalArgs_plain ?_)
  exact thn hA fun us s2 ⟨vs, H2, I2, r2, q2⟩ => hm pins s2 σ H2 x vs v us Q I2 r1 r2 q2
end
end L2
namespace L2
open PySem PySem.Spec PyProof.Rows
def MtM (X : Cx) (id : String) (r : V → List V → Hp → VK → Prop) : Prop :=
  ∀ (pins : List (Addr × Obj)) (s : Shared) (σ : St) (H : Hp) (x : V) (xs : List V) (v : Value) (us : List Value) (Q : VK), Inv X pins σ H s → RelV x v → Vals xs us → r x xs H Q →
    wpAny (model X.prog X.w) X.A (call (.builtin id) (v :: us)) (EP X pins σ Q) X.xe s
theorem Vals.one : ∀ {x : V} {us : List Value}, Vals [x] us → ∃ u, us = [u] ∧ RelV x u
  | _, _, .cons r .nil => ⟨_, rfl, r⟩
theorem Vals.two : ∀ {x y : V} {us : List Value}, Vals [x, y] us → ∃ u v, us = [u, v] ∧ RelV x u ∧ RelV y v
  | _, _, _, .cons r (.cons q .nil) => ⟨_, _, rfl, r, q⟩
theorem Vals.zero : ∀ {us : List Value}, Vals [] us → us = []
  | _, .nil => rfl
theorem Vals.dropLast {xs : List V} {us : List Value} (h : Vals xs us) : Vals xs.dropLast us.dropLast := by
  induction h with
  | nil => exact .nil
  | cons r t ih =>
    cases t with
    | nil => exact .nil
    | cons q t' => exact .cons r ih
theorem Vals.eraseIdx : ∀ {xs : List V} {us : List Value} (i : Nat), Vals xs us → Vals (xs.eraseIdx i) (us.eraseIdx i)
  | _, _, _, .nil => .nil
  | _, _, 0, .cons _ t => t
  | _, _, i + 1, .cons r t => .cons r (Vals.eraseIdx i t)
theorem Vals.reverse {xs : List V} {us : List Value} (h : Vals xs us) : Vals xs.reverse us.reverse := by
  induction h with
  | nil => exact .nil
  | cons r t ih => rw [List.reverse_cons, List.reverse_cons]; exact Vals.append ih (.cons r .nil)
theorem Vals.rep {xs : List V} {us : List Value} (h : Vals xs us) : ∀ k : Nat, Vals (List.replicate k xs).flatten (List.replicate k us).flatten
  | 0 => .nil
  | k + 1 => by
    rw [List.replicate_succ, List.replicate_succ, List.flatten_cons, List.flatten_cons]
    exact Vals.append h (Vals.rep h k)
theorem qA6 {α : Type} (l : List α) : l.eraseIdx (l.length - 1) = l.dropLast := by
  induction l with
  | nil => rfl
  | cons a r ih =>
    cases r with
    | nil => rfl
    | cons b r =>
      have e : (a :: b :: r).length - 1 = ((b :: r).length - 1) + 1 := by
        have h1 : (a :: b :: r).length = r.length + 2 := rfl
        have h2 : (b :: r).length = r.length + 1 := rfl
        omega
      rw [e, List.eraseIdx_cons_succ, ih]
      all_goals rfl
theorem vw (its : List Value) : ∀ (k : Nat) (acc : List Value),
    List.foldl (fun x1 x2 => x1 ++ x2) acc.toArray (List.replicate k its.toArray) = (acc ++ (List.replicate k its).flatten).toArray
  | 0, acc => by simp
  | k + 1, acc => by
    have e : acc.toArray ++ its.toArray = (acc ++ its).toArray := by simp
    have e2 : (acc ++ its) ++ (List.replicate k its).flatten = acc ++ (List.replicate (k + 1) its).flatten := by
      rw [List.replicate_succ, List.flatten_cons, List.append_assoc]
    rw [← e2, ← vw its k (acc ++ its), ← e, List.replicate_succ, List.foldl_cons]
section
variable {X : Cx} {pins : List (Addr × Obj)} {σ : St} {H : Hp} {s : Shared} {l b : Addr} {xs ys zs : List V}
theorem Inv.lset {its its' : List Value} {n : Nat} {f : Array Value → Array Value} {t' : Nat} (I : Inv X pins σ H s) (hH : H l = some (.lst xs))
    (e : s.heap.get? l = some { cls := .type "list", data := .seq its.toArray n }) (hf : f its.toArray = its'.toArray) (hv : Vals ys its') (hz : ys.length ≤ sizeLine) :
    Inv X pins σ (upd H l (.lst ys)) { s with heap := s.heap.update l (Obj.mapSeq f), toks := t' } := by
  have q := PySem.IsL.update e f
  rw [hf] at q
  refine I.write (x := l) (e := l) (by rw [hH]; exact trivial) (.inl rfl) (fun b' u hb hu => (Heap.get?_update_other s.heap (Obj.mapSeq f) (Ne.symm hb)).trans hu) ⟨_, q⟩ ?_
  exact ⟨hz, its', _, hv, q⟩
theorem Inv.lnew {its : List Value} {t' : Nat} (I : Inv X pins σ H s) (hv : Vals ys its) (hz : ys.length ≤ sizeLine) :
    Inv X pins σ (upd H s.heap.objs.size (.lst ys)) { s with heap := s.heap.push { cls := .type "list", data := .seq its.toArray }, toks := t' } :=
  I.laid (fun _ _ q => Heap.get?_push_of_some _ q) (Nat.le_refl _) ⟨hz, its, 0, hv, Heap.get?_push_size _ rfl⟩
theorem Inv.fresh (I : Inv X pins σ H s) : H s.heap.objs.size = none := I.hok.fresh (Nat.le_refl _)
theorem Inv.lstM (I : Inv X pins σ H s) (hH : H l = some (.lst xs)) : xs.length ≤ sizeLine ∧ ∃ (its : List Value) (n : Nat), Vals xs its ∧ xs.length = its.length ∧ s.heap.get? l = some { cls := .type "list", data := .seq its.toArray n } := by
  obtain ⟨z, its, n, r, e⟩ := I.hok l _ hH
  exact ⟨z, its, n, r, r.length, e⟩
theorem qCq {n : Nat} (h : n ≤ sizeLine) : Builtin.List.listTooLong n = false := by
  unfold Builtin.List.listTooLong
  exact decide_eq_false (by omega)
end
section
variable {X : Cx}
def qEc : V → List V → Hp → VK → Prop := fun x vs H Q => ∃ l xs y, x = .ref l ∧ vs = [y] ∧ H l = some (.lst xs) ∧ xs.length < sizeLine ∧ Q .non (upd H l (.lst (xs ++ [y])))
theorem jL : MtM X "list.append" qEc := by
  intro pins s σ H x vs v us Q I rx rv h
  obtain ⟨l, xs, y, rfl, rfl, hH, hz, q⟩ := h
  cases rx
  obtain ⟨u, rfl, ru⟩ := rv.one
  obtain ⟨z, its, n, r, hl, e⟩ := I.lstM hH
  refine call_meets F.slot_list_append ⟨_, e, rfl⟩ F.entry_list_append (F.args_list_append_2 _ _) (PySem.list_append l its.toArray n u (by rw [List.size_toArray]; omega)) ⟨e, ?_⟩
  refine ⟨.non, _, I.lset (its' := its ++ [u]) hH e (by simp) (r.append (.cons ru .nil)) ?_, rfl, q⟩
  rw [List.length_append, List.length_singleton]
  omega
def qH2 : V → List V → Hp → VK → Prop := fun x vs H Q => ∃ l xs y, x = .ref l ∧ vs = [] ∧ H l = some (.lst xs) ∧ xs[xs.length - 1]? = some y ∧ Q y (upd H l (.lst xs.dropLast))
theorem qD0 : MtM X "list.pop" qH2 := by
  intro pins s σ H x vs v us Q I rx rv h
  obtain ⟨l, xs, y, rfl, rfl, hH, hy, q⟩ := h
  cases rx
  have hus := rv.zero
  subst hus
  obtain ⟨z, its, n, r, hl, e⟩ := I.lstM hH
  obtain ⟨u, hu, ru⟩ := r.get hy
  have hy' : its.toArray[its.toArray.size - 1]? = some u := by
    show its.toArray[its.length - 1]? = some u
    rw [← Array.getElem?_toList, ← hl]
    exact hu
  refine call_meets F.slot_list_pop ⟨_, e, rfl⟩ F.entry_list_pop (F.args_list_pop_1 _) (MeetsSeq.list_pop_last l its.toArray n u hy' (by rw [List.size_toArray]; omega)) ⟨e, ?_⟩
  refine ⟨y, _, I.lset (its' := its.dropLast) hH e ?_ r.dropLast ?_, ru, q⟩
  · show its.toArray.eraseIdxIfInBounds (its.toArray.size - 1) = its.dropLast.toArray
    rw [List.size_toArray, List.eraseIdxIfInBounds_toArray, qA6]
  · rw [List.length_dropLast]
    omega
def qHu : R2 := fun x y H Q => ∃ l b xs zs, x = .ref l ∧ y = .ref b ∧ H l = some (.lst xs) ∧ H b = some (.lst zs) ∧ xs.length + zs.length ≤ sizeLine ∧ ∀ p, H p = none → Q (.ref p) (upd H p (.lst (xs ++ zs)))
theorem qE9 : OpR X (binaryOp .Add) qHu := by
  intro pins s σ H x y v u Q I rx ry h
  obtain ⟨l, b, xs, zs, rfl, rfl, hH, hB, hz, q⟩ := h
  cases rx
  cases ry
  obtain ⟨z, its, n, r, hl, e⟩ := I.lstM hH
  obtain ⟨z2, its2, n2, r2, hl2, e2⟩ := I.lstM hB
  refine PySem.P.add_list e e2 ?_ (by rw [List.size_toArray, List.size_toArray]; omega)
  have ea : its.toArray ++ its2.toArray = (its ++ its2).toArray := by simp
  rw [ea]
  exact ⟨.ref _, _, I.lnew (t' := s.toks) (r.append r2) (by rw [List.length_append]; omega), rfl, q _ I.fresh⟩
def qHw : R2 := fun x y H Q => ∃ l k xs, x = .ref l ∧ y = .int k ∧ H l = some (.lst xs) ∧ -(2 ^ 63) ≤ k ∧ k < 2 ^ 63 ∧ xs.length * k.toNat ≤ sizeLine ∧
  ∀ p, H p = none → Q (.ref p) (upd H p (.lst (List.replicate k.toNat xs).flatten))
theorem qBu {α : Type} (xs : List α) (k : Nat) : (List.replicate k xs).flatten.length = k * xs.length := by
  induction k with
  | zero => simp
  | succ k ih => rw [List.replicate_succ, List.flatten_cons, List.length_append, ih, Nat.succ_mul, Nat.add_comm]
theorem qF9 : OpR X (binaryOp .Mult) qHw := by
  intro pins s σ H x y v u Q I rx ry h
  obtain ⟨l, k, xs, rfl, rfl, hH, h1, h2, hz, q⟩ := h
  cases rx
  obtain ⟨t, rfl⟩ := ry
  obtain ⟨z, its, n, r, hl, e⟩ := I.lstM hH
  have hlen : its.toArray.size * k.toNat ≤ sizeLine := by rw [List.size_toArray, ← hl]; exact hz
  have hcap : ¬ its.toArray.size * k.toNat > (2 ^ 63 - 1) / 8 := by
    have : (sizeLine : Nat) ≤ (2 ^ 63 - 1) / 8 := by decide
    omega
  have hfit : ¬ (!Builtin.List.listFitsIndex k) = true := by
    rw [fitsIndex_both h1 h2]
    exact Bool.false_ne_true
  have hlong : ¬ Builtin.List.listTooLong (its.toArray.size * k.toNat) = true := by
    rw [qCq hlen]
    exact Bool.false_ne_true
  have hnew : List.foldl (fun x1 x2 => x1 ++ x2) #[] (List.replicate (if its.toArray.isEmpty = true then 0 else k.toNat) its.toArray) = (List.replicate k.toNat its).flatten.toArray := by
    have f0 : ∀ m : Nat, List.foldl (fun x1 x2 => x1 ++ x2) #[] (List.replicate m its.toArray) = (List.replicate m its).flatten.toArray := fun m => by
      have := vw its m []
      rw [List.nil_append] at this
      exact this
    rw [f0]
    cases its with
    | nil => simp
    | cons a r' => rw [if_neg (by simp)]
  refine wpAny_binaryOp_repeat_ref (T := "list") (U := "int") (by decide) ⟨_, e, rfl⟩ (fun s' => typeIs_int s' k t) noFill_list_mul F.fills_int_mul F.slot_int_rmul repeat_list F.slot_int_index.lookup
    (call_meets F.slot_int_rmul (typeIs_int s k t) F.entry_int_rmul (F.args_int_rmul_2 _ _) (int___rmul___int_list k t l its.toArray n)
      ⟨e, rfl, ⟨_, e, rfl⟩, call_meets F.slot_list_mul ⟨_, e, rfl⟩ F.entry_list_mul (F.args_list_mul_2 _ _) (AutoListH.list___mul___list_int_3 l its.toArray n k t hfit hcap hlong) ⟨e, ?_⟩⟩)
  rw [hnew]
  exact ⟨.ref _, _, I.lnew (t' := s.toks) (r.rep k.toNat) (by rw [qBu, Nat.mul_comm]; exact hz), rfl, q _ I.fresh⟩
end
section
variable {prog : Program} {w : World} {A : Around} {E : Value → Shared → Prop} {s : Shared}
end
section
variable {X : Cx}
end
end L2
namespace Att
open PySem PySem.W PySem.Calls PyProof.Rows
theorem z7 {P : Params} {h : Heap} : ∀ (ns : List Int) (vs : List Value), WellAll P h vs (ns.map WData.int) → IntsAre vs ns := by
  intro ns
  induction ns with
  | nil =>
    intro vs w
    rw [List.map_nil] at w
    cases w
    exact .nil
  | cons n ns ih =>
    intro vs w
    rw [List.map_cons] at w
    cases w with
    | cons a b =>
      cases a
      exact .cons _ _ (ih _ b)
theorem qBl {l : OpenLaw} {n : Nat} (hn : l.most = some n) {P : Params} {h : Heap} {args : List WData} {vals : List Value}
    (hpre : l.row.toRowW.claim.pre args = true) (hwl : WellAll P h vals args) :
    ∃ a vs ns, vals = [Value.ref a] ∧ args = [WData.list (ns.map WData.int)] ∧ h.get? a = some { cls := .type "list", data := .seq vs.toArray } ∧ IntsAre vs ns ∧ ns.length ≤ n := by
  have hsh : WShape.hasAll [] args [.list .int] = true := (pre_splitW hpre).1
  have hc : l.pre.holds [] { args := args } = true := (pre_splitW hpre).2
  obtain ⟨d, r, rfl, h1, h2⟩ := hasAllW_cons hsh
  obtain rfl := hasAllW_nil h2
  obtain ⟨xs, rfl, h3⟩ := hasW_list h1
  obtain ⟨ns, rfl⟩ := items_int h3
  have hlen : ns.length ≤ n := by
    unfold OpenLaw.pre at hc
    have h4 : (WTm.not (.lt (.lit (.int (n : Int))) (.len (.arg 0)))).holds [] { args := [.list (ns.map .int)] } = true := by
      have h4 := (holds_andW hc).1
      rw [hn] at h4
      exact h4
    have h5 := condW_of h4 (w_not (w_lt w_lit (w_len_list (w_arg rfl))))
    rw [List.length_map] at h5
    refine Nat.le_of_not_lt fun q => ?_
    have q' : (n : Int) < ((ns.length : Nat) : Int) := by omega
    first
      | (rw [decide_eq_true q'] at h5; exact absurd h5 (by decide))
      | (simp at h5; omega)
  cases hwl with
  | cons w1 w2 =>
    cases w2
    cases w1 with
    | list ho hall => exact ⟨_, _, ns, rfl, rfl, ho, z7 ns _ hall, hlen⟩
theorem qCh (l : OpenLaw) (args : List WData) : l.row.toRowW.claim.post args (.bool true) args = true :=
  postW_of (r := l.row.toRowW) (X := (true == true))
    (show WShape.has [] (.bool true) .bool = true by first | rfl | decide | simp [WShape.has, WShape.arms, WShape.armsAll])
    (show (WTm.eq .res (.lit (.bool true))).value [] { args := args, res := some (.bool true), after := args } = some (.bool (true == true)) from w_eq_bool (w_res rfl) w_lit) rfl
theorem attach_call {l : OpenLaw} {n : Nat} {q : Program} {loose : List Str} {XP : (Str → Option Value) → Heap → Prop} {YP : World → Heap → Prop} {d : DefRec}
    (hn : l.most = some n) (hdf : d.params.defaults = [])
    (call : ∀ (w : World) (s₀ s₁ : Shared) (mg mb : Str → Option Value) (fa : Addr) (o : Obj) (pm cd doc : Value) (a : Addr) (vs : List Value) (ns : List Int),
      Ground q loose [] XP w s₀ mg mb s₁.heap → YP w s₁.heap →
      s₁.heap.get? fa = some o → o.data = .func (docDef d.name d.params d.body d.scope pm cd doc) → s₁.heap.CodeRec cd d.name → mg d.name = some (.ref fa) →
      s₁.heap.get? a = some { cls := .type "list", data := .seq vs.toArray } → IntsAre vs ns → ns.length ≤ n → s₁.gens = #[] →
      codeAny (model l.prog w) callerA (.call (.ref fa) ⟨[.ref a], []⟩) (fun r s' => r = .ok (.ret (.bool true)) ∧ OldK s₁.heap s'.heap ∧ s'.os = s₁.os ∧ AllBare s'.gens) s₁) :
    WalkO q loose XP YP l.row.toRowW d [] (fun f vs => PySem.call f vs) := by
  intro w s₀ s₁ mg mb G Y fa o pm cd doc dV kV ho hd hcd hD hmg hg args vals as hpre hlay hrd hwl hlo
  obtain rfl : dV = .none := Dflts.none hD hdf
  obtain rfl : kV = .none := Dflts.noKw hD
  obtain ⟨a, vs, ns, rfl, rfl, hobj, hints, hlen⟩ := qBl hn hpre hwl
  refine enter_call (codeAny_mono (call w s₀ s₁ mg mb fa o pm cd doc a vs ns G Y ho (fd_plain hd) hcd hmg hobj hints hlen hg) fun r s' hq => ?_)
  obtain ⟨rfl, h2, h3, h4⟩ := hq
  exact ⟨.inl ⟨.bool true, .bool true, [], rfl, fun _ => rfl, .bool true, qCh l _, fun _ => ⟨List.Pairwise.nil, fun _ hm => (nomatch hm)⟩⟩, h2, h3, h4⟩
section
variable {prog : Program} {w : World} {A : Around} {E : Value → Shared → Prop} {s : Shared} {K : Frag}
def ledger (h : Heap) (L d : Addr) : List (Addr × Obj) := (List.range h.objs.size).filterMap fun a => if a = L ∨ a = d then none else (h.get? a).map fun o => (a, o)
end
end Att
namespace L2
open PySem PySem.Spec PyProof.Rows
theorem vi : ∀ {vs : List Value} {ns : List Int}, IntsAre vs ns → Vals (ns.map V.int) vs
  | _, _, .nil => .nil
  | _, _, .cons n t h => .cons ⟨t, rfl⟩ (vi h)
def qGf (H : Hp) : Prop := ∀ b, H b = none ∨ ∃ o xs, H b = some (.frz o (.lst xs))
theorem qDb {P : Program} {w : World} {K : PySem.W.Frag} {mg mb : Str → Option Value} {CX : CXT} {k : Nat} {fa a : Addr} {fd : FuncData} {x : Str} {sp : Sp} {s₁ : Shared} {vs : List Value} {ns : List Int}
    (KX : K.In s₁.heap) (hns : s₁.heap.Ns mainGlobals mg) (hb : s₁.heap.Ns builtinsNs mb) (hbb : ∀ x : Str, x ≠ "__name__" → mb x = bootBuiltins x) (hlim : s₁.heap.NoLimit) (hg : s₁.gens = #[])
    (ha : s₁.heap.get? a = some { cls := .type "list", data := .seq vs.toArray }) (hi : IntsAre vs ns) (hl : ns.length ≤ sizeLine) (hr : Room k callerA)
    (F : ∀ base : Heap, K.In base → base.Ns mainGlobals mg → FnOk P w K mg base CX k fa fd [x] sp) (hbind : ∀ (s : Shared) (u : Value), BindsTo s fd ⟨[u], []⟩ [(x, u)])
    (hsp : ∀ H : Hp, qGf H → SqL K H a (ns.map V.int) → sp [.ref a] H (fun v _ => v = .bl true) fun _ _ _ => False)
    (hCX : ∀ H e s', CX [] H s₁ (fun _ _ _ => False) e s' → False) :
    codeAny (model P w) callerA (.call (.ref fa) ⟨[.ref a], []⟩) (fun r s' => r = .ok (.ret (.bool true)) ∧ OldK s₁.heap s'.heap ∧ s'.os = s₁.os ∧ AllBare s'.gens) s₁ := by
  have rv := vi hi
  have lenV := hi.length
  have core : ∀ H : Hp, qGf H → SqL K H a (ns.map V.int) → HOk P w H s₁.heap → (∀ b, H b ≠ none → b = a) → (H a ≠ none → K.lookup a = none) →
      codeAny (model P w) callerA (.call (.ref fa) ⟨[.ref a], []⟩) (fun r s' => r = .ok (.ret (.bool true)) ∧ OldK s₁.heap s'.heap ∧ s'.os = s₁.os ∧ AllBare s'.gens) s₁ := by
    intro H hO hS hok hA hK
    have base_of : ∀ {b : Addr} {o : Obj}, s₁.heap.get? b = some o → H b = none → (qDn s₁.heap H).get? b = some o := fun e n => qC5 e n
    have noA : ∀ {b : Addr} {o : Obj} {es : Array DictEntry} {ep : Nat}, s₁.heap.get? b = some o → o.data = .dict es ep → H b = none := fun {b o es ep} e d => by
      cases q : H b with
      | none => rfl
      | some u =>
        have e' : b = a := hA b (by rw [q]; simp)
        subst e'
        rw [ha] at e; cases e
        have d' : Data.seq vs.toArray _ = Data.dict es ep := d
        cases d'
    have nsK : ∀ {b : Addr} {m : Str → Option Value}, s₁.heap.Ns b m → (qDn s₁.heap H).Ns b m := fun {b m} ⟨o, es, ep, e, d, r⟩ => ⟨o, es, ep, base_of e (noA e d), d, r⟩
    have hKb : K.In (qDn s₁.heap H) := fun b o e => base_of (KX b o e) (by
      cases q : H b with
      | none => rfl
      | some u =>
        have e' : b = a := hA b (by rw [q]; simp)
        subst e'
        rw [hK (by rw [q]; simp)] at e; cases e)
    have hM : Mod K mg (qDn s₁.heap H) := ⟨hKb, nsK hns, ⟨mb, nsK hb, hbb⟩, let ⟨mc, h1, h2⟩ := hlim; ⟨mc, nsK h1, h2⟩⟩
    have e0 : Env0 P w K mg (qDn s₁.heap H) callerA [] s₁ H := ⟨rfl, hM, fun b o e => qEo e, Nat.le_of_eq (qBy _ _), trivial, fun b hb => absurd (show b ∈ ([] : List Addr) from hb) (by simp), hok, .of_eq hg⟩
    refine codeAny_mono ((F _ hKb (nsK hns)).run callerA [] s₁ H ⟨[.ref a], []⟩ [.ref a] [.ref a] _ _ hr e0 (hbind s₁ (.ref a)) (.cons rfl .nil) (hsp H hO hS)) fun r s' h => ?_
    cases r with
    | error e => exact (hCX H e s' h).elim
    | ok fl =>
      cases fl with
      | next => exact False.elim h
      | brk => exact False.elim h
      | cont => exact False.elim h
      | ret u =>
        obtain ⟨v, H', os, bare, un, hok', r', q⟩ := h
        have q' : v = .bl true := q
        subst q'
        obtain rfl : u = Value.bool true := r'
        refine ⟨rfl, OldK.of_keep fun b o e => ?_, os, bare⟩
        cases q : H b with
        | none => exact un.keep b o e q (by intro z; exact absurd (show b ∈ ([] : List Addr) from z) (by simp)) (by simp)
        | some u =>
          rcases hO b with z | ⟨ob, xs, z⟩
          · rw [q] at z; cases z
          · have z2 := un.frzs b ob _ z
            obtain ⟨e1, _⟩ := hok b _ z
            obtain ⟨e2, _⟩ := hok' b _ z2
            rw [e] at e1; cases e1
            exact e2
  cases hk : K.lookup a with
  | some o =>
    have e := KX a o hk
    rw [ha] at e
    cases e
    refine core (fun _ => none) (fun _ => .inl rfl) (.inr ⟨_, vs.toArray, _, hk, rfl, rfl, rfl, by rw [List.size_toArray, lenV]; exact hl, by simpa using rv⟩) (fun b u z => by have z' : (none : Option HO) = some u := z; cases z') (fun b z => absurd rfl z) fun z => absurd rfl z
  | none =>
    refine core (fun b => if b = a then some (.frz { cls := .type "list", data := .seq vs.toArray } (.lst (ns.map V.int))) else none) (fun b => ?_) (.inl (.inr ⟨{ cls := .type "list", data := .seq vs.toArray }, if_pos rfl⟩)) (fun b u z => ?_) (fun b z => ?_) fun _ => hk
    · by_cases hb : b = a
      · exact .inr ⟨_, _, if_pos hb⟩
      · exact .inl (if_neg hb)
    · by_cases hb : b = a
      · have z' := (if_pos hb).symm.trans z
        cases z'
        subst hb
        exact ⟨ha, by rw [List.length_map]; exact hl, vs, _, rv, ha⟩
      · have z' := (if_neg hb).symm.trans z
        cases z'
    · by_cases hb : b = a
      · exact hb
      · exact absurd (if_neg hb) z
end L2
namespace L2
open PySem PySem.Spec PyProof.Rows
theorem walk_of {l : PySem.W.OpenLaw} {n k : Nat} {q : Program} {loose : List Str} {XP : (Str → Option Value) → Heap → Prop} {YP : World → Heap → Prop} {d : DefRec} {K : Params → PySem.W.Frag} {CX : World → CXT} {sp : World → Sp} {x : Str}
    (hn : l.most = some n) (hn2 : n ≤ sizeLine) (hdf : d.params.defaults = []) (hr : Room k callerA)
    (hY : ∀ (w : World) (h : Heap), YP w h → (K w.params).In h)
    (F : ∀ (w : World) (mg : Str → Option Value) (fa : Addr) (h : Heap), (K w.params).In h → h.Ns mainGlobals mg → mg d.name = some (.ref fa) →
      ∃ fd : FuncData, (∀ (s : Shared) (u : Value), BindsTo s fd ⟨[u], []⟩ [(x, u)]) ∧
        ∀ base : Heap, (K w.params).In base → base.Ns mainGlobals mg → FnOk l.prog w (K w.params) mg base (CX w) k fa fd [x] (sp w))
    (hsp : ∀ (w : World) (H : Hp) (a : Addr) (ns : List Int), ns.length ≤ n → qGf H → SqL (K w.params) H a (ns.map V.int) → sp w [.ref a] H (fun v _ => v = .bl true) fun _ _ _ => False)
    (hCX : ∀ (w : World) (H : Hp) (s : Shared) (e : Value) (s' : Shared), CX w [] H s (fun _ _ _ => False) e s' → False) :
    PySem.W.WalkO q loose XP YP l.row.toRowW d [] (fun f vs => PySem.call f vs) := by
  refine Att.attach_call hn hdf fun w s₀ s₁ mg mb fa o pm cd doc a vs ns G Y ho hd hcd hmg hobj hints hlen hg => ?_
  have KX := hY w _ Y
  obtain ⟨fd, hb, hF⟩ := F w mg fa _ KX G.T.g hmg
  exact qDb KX G.T.g G.T.b G.T.builtins G.T.nolimit hg hobj hints (Nat.le_trans hlen hn2) hr hF hb (fun H hO hS => hsp w H a ns hlen hO hS) fun H e s' => hCX w H s₁ e s'
end L2
namespace L2
open PySem PySem.Spec PyProof.Rows
def qS (s : Stmt) : Arguments := match s with
  | .FunctionDef _ a _ _ _ _ _ _ _ _ => a
  | _ => { posonlyargs := [], args := [], vararg := none, kwonlyargs := [], kw_defaults := [], kwarg := none, defaults := [] }
def qR (s : Stmt) : List Stmt := match s with
  | .FunctionDef _ _ b _ _ _ _ _ _ _ => b
  | _ => []
def qG (s : Stmt) : Scope := match s with
  | .FunctionDef _ _ _ _ _ _ sc _ _ _ => sc
  | _ => { kind := .function, names := [], isGenerator := false, isCoroutine := false }
abbrev CX0 : CXT := fun _ _ _ _ _ _ => False
abbrev E0 : XK := fun _ _ _ => False
theorem qGm {X : Cx} : qBq CX0 X E0 := fun _ _ _ _ _ _ _ h => h.elim
structure Fun (K : PySem.W.Frag) (x qual : Str) (st : Stmt) (f : Addr) (fd : FuncData) : Prop where
  ex : ∃ (oc : Value) (od : Option Addr) (kV doc pm : Value) (an : Option Addr) (cdv ct : Value) (osl : Array (Option Value)),
    fd = PySem.W.fnOf x qual (qS st) (qR st) (qG st) .none kV doc pm an cdv ct ∧ K.lookup f = some ⟨oc, od, .func fd, osl⟩ ∧ PySem.W.codeIn K cdv qual = true
  kp : PySem.W.keepIn K (.ref f) = true
section
variable {P : Program} {w : World} {K : PySem.W.Frag} {mg : Str → Option Value} {base : Heap}
theorem Fun.ok {x qual : Str} {st : Stmt} {f : Addr} {fd : FuncData} {N ps : List Str} {k : Nat} {sp : Sp} (F : Fun K x qual st f fd) (S : qV N ps (qG st)) (len : ∀ vs H Q E, sp vs H Q E → vs.length = ps.length)
    (hbody : ∀ (cdv : Value) (A : Around) (outer : List Env) (s : Shared) (H : Hp) (vs : List V) (Q : VK) (E : XK), Room k (A.deeper (envOfC qual (qG st) s.heap.objs.size f cdv)) → sp vs H Q E →
      ∃ t, PSs (qCo CX0 P w K mg base N qual (qG st) f cdv A outer s H E).nox (qR st) t ∧ t { nx := fun _ H' => Q .non H', rt := Q } (vF N vs) H) : FnOk P w K mg base CX0 (k + 1) f fd ps sp := by
  obtain ⟨oc, od, kV, doc, pm, an, cdv, ct, osl, rfl, lk, hcd⟩ := F.ex
  refine qFr lk hcd S len fun A outer s H vs Q E hr hsp => ?_
  obtain ⟨t, h, q⟩ := hbody cdv A outer s H vs Q E hr hsp
  exact ⟨t, h.nox, q⟩
theorem Fun.binds {x qual : Str} {st : Stmt} {f : Addr} {fd : FuncData} {ps : List Str} (F : Fun K x qual st f fd)
    (h : ∀ (kV doc pm : Value) (an : Option Addr) (cdv ct : Value) (us : List Value), us.length = ps.length → bindArgs (PySem.W.fnOf x qual (qS st) (qR st) (qG st) .none kV doc pm an cdv ct) ⟨us, []⟩ = pure (ps.zip us)) : Binds K fd ps [] := by
  obtain ⟨oc, od, kV, doc, pm, an, cdv, ct, osl, rfl, lk, hcd⟩ := F.ex
  exact .all (h kV doc pm an cdv ct)
theorem qf {x qual : Str} {st : Stmt} {f : Addr} {oc : Value} {od an : Option Addr} {osl : Array (Option Value)} {kV doc pm cdv ct : Value} (l : K.lookup f = some ⟨oc, od, .func (PySem.W.fnOf x qual (qS st) (qR st) (qG st) .none kV doc pm an cdv ct), osl⟩)
    (c : PySem.W.codeIn K cdv qual = true) (k : PySem.W.keepIn K (.ref f) = true) : Fun K x qual st f (PySem.W.fnOf x qual (qS st) (qR st) (qG st) .none kV doc pm an cdv ct) := ⟨⟨oc, od, kV, doc, pm, an, cdv, ct, osl, rfl, l, c⟩, k⟩
end
theorem qd {n : Nat} (h : n ≤ 1000) : n < sizeLine := Nat.lt_of_le_of_lt h (by decide)
section
variable {X : Cx}
theorem pv (i : Nat) {x : Str} {pos : Pos} (hN : X.N[i]? = some x := by rfl) (hv : Vis X.env.scope x := by first | exact Or.inl rfl | exact Or.inr (Or.inl rfl) | exact Or.inr (Or.inr rfl)) (hd : (x == ("__debug__" : Str)) = false := by decide)
    (hcd : (x == ("__classdict__" : Str)) = false := by decide) : PE X (.Name x pos) (qGu i) := qFk hN hv hd hcd
end
theorem jE {A B : Prop} (h : B) : if false = true then A else B := by
  rw [if_neg Bool.false_ne_true]
  exact h
theorem j9 {A B : Prop} (h : A) : if true = true then A else B := by
  rw [if_pos rfl]
  exact h
theorem zH {c A B : Prop} [Decidable c] (h1 : c → A) (h2 : ¬ c → B) : if c then A else B := by
  by_cases h : c
  · rw [if_pos h]
    exact h1 h
  · rw [if_neg h]
    exact h2 h
theorem qCg {c A B : Prop} [Decidable c] (hc : c) (h : B) : if (!decide c) = true then A else B := by
  rw [decide_eq_true hc]
  exact jE h
def Same (H H' : Hp) : Prop := ∀ b o, H b = some o → H' b = some o
theorem Same.refl (H : Hp) : Same H H := fun _ _ h => h
theorem Same.trans {H H1 H2 : Hp} (a : Same H H1) (b : Same H1 H2) : Same H H2 := fun c o h => b c o (a c o h)
theorem Same.free {H H' : Hp} (e : Same H H') {l : Addr} (h : H' l = Option.none) : H l = Option.none := by
  cases q : H l with
  | none => rfl
  | some o =>
    rw [e l o q] at h
    cases h
theorem Same.seq {K : PySem.W.Frag} {H H' : Hp} {a : Addr} {xs : List V} (e : Same H H') (h : SqL K H a xs) : SqL K H' a xs := by
  rcases h with (h | ⟨o, h⟩) | h
  · exact .inl (.inl (e _ _ h))
  · exact .inl (.inr ⟨o, e _ _ h⟩)
  · exact .inr h
end L2
namespace L2
open PySem PySem.Spec PyProof.Rows
section
variable {κ : Type} [DecidableEq κ]
def qA9 (kvs : List (κ × V)) (k : κ) : Option V := (kvs.find? fun kv => decide (kv.1 = k)).map (·.2)
def qGb (kvs : List (κ × V)) (k : κ) (v : V) : List (κ × V) :=
  if (kvs.any fun kv => decide (kv.1 = k)) = true then kvs.map (fun kv => if kv.1 = k then (kv.1, v) else kv) else kvs ++ [(k, v)]
def qFf (kvs : List (κ × V)) (k : κ) : List (κ × V) := kvs.filter fun kv => decide (kv.1 ≠ k)
theorem qAe {p : κ × V} {r : List (κ × V)} {k : κ} (e : p.1 = k) : qA9 (p :: r) k = some p.2 := by simp [qA9, List.find?_cons, e]
theorem qAk {p : κ × V} {r : List (κ × V)} {k : κ} (e : ¬ p.1 = k) : qA9 (p :: r) k = qA9 r k := by simp [qA9, List.find?_cons, e]
theorem RelO.getD {o : Option V} {u : Option Value} {d : V} {d' : Value} (r : RelO o u) (rd : RelV d d') : RelV (o.getD d) (u.getD d') := by
  cases o with
  | none => cases u with
    | none => exact rd
    | some _ => exact (show False from r).elim
  | some _ => cases u with
    | none => exact (show False from r).elim
    | some _ => exact r
theorem KV.val {kvs : List (κ × V)} {vs : List (κ × Value)} (r : KV kvs vs) (k : κ) : RelO (qA9 kvs k) (valueAt vs k) := by
  unfold KV at r
  induction r with
  | nil => exact True.intro
  | @cons p q ps qs h t ih =>
    obtain ⟨h1, h2⟩ := h
    by_cases e : p.1 = k
    · have e' : q.1 = k := h1.symm.trans e
      have b : valueAt (q :: qs) k = some q.2 := by simp [valueAt, List.find?_cons, e']
      rw [qAe e, b]; exact h2
    · have e' : ¬ q.1 = k := fun z => e (h1.trans z)
      have b : valueAt (q :: qs) k = valueAt qs k := by simp [valueAt, List.find?_cons, e']
      rw [qAk e, b]; exact ih
theorem KV.any {kvs : List (κ × V)} {vs : List (κ × Value)} (r : KV kvs vs) (k : κ) : (kvs.any fun kv => decide (kv.1 = k)) = vs.any fun kv => decide (kv.1 = k) := by
  unfold KV at r
  induction r with
  | nil => rfl
  | cons h t ih => rw [List.any_cons, List.any_cons, ih, h.1]
theorem KV.drop {kvs : List (κ × V)} {vs : List (κ × Value)} (r : KV kvs vs) (k : κ) : KV (qFf kvs k) (without vs k) := by
  unfold KV at r ⊢
  unfold qFf without
  induction r with
  | nil => exact .nil
  | @cons p q ps qs h t ih =>
    obtain ⟨h1, h2⟩ := h
    rw [List.filter_cons, List.filter_cons]
    by_cases e : p.1 = k
    · have a : ¬ decide (p.1 ≠ k) = true := by simp [e]
      have b : ¬ decide (q.1 ≠ k) = true := by simp [h1.symm.trans e]
      rw [if_neg a, if_neg b]; exact ih
    · have e' : ¬ q.1 = k := fun z => e (h1.trans z)
      have a : decide (p.1 ≠ k) = true := by simp [e]
      have b : decide (q.1 ≠ k) = true := by simp [e']
      rw [if_pos a, if_pos b]; exact .cons ⟨h1, h2⟩ ih
theorem KV.keys {kvs : List (κ × V)} {vs : List (κ × Value)} (r : KV kvs vs) : kvs.map (·.1) = vs.map (·.1) := by
  unfold KV at r
  induction r with
  | nil => rfl
  | cons h t ih => rw [List.map_cons, List.map_cons, ih, h.1]
theorem KV.length {kvs : List (κ × V)} {vs : List (κ × Value)} (r : KV kvs vs) : kvs.length = vs.length := Paired.length r
end
abbrev KT (H : Hp) : List (List Key × V) → List (List Key × Addr × Value) → Prop := Paired fun p q => p.1 = q.1 ∧ H q.2.1 = some (.tup (p.1.map kV)) ∧ RelV p.2 q.2.2
theorem KT.val {H : Hp} {kvs : List (List Key × V)} {xs : List (List Key × Addr × Value)} (r : KT H kvs xs) (k : List Key) : RelO (qA9 kvs k) ((atKey xs k).map (·.2)) := by
  induction r with
  | nil => exact True.intro
  | @cons p q ps qs h t ih =>
    obtain ⟨h1, _, h2⟩ := h
    by_cases e : p.1 = k
    · have e' : q.1 = k := h1.symm.trans e
      have b : atKey (q :: qs) k = some q.2 := by simp [atKey, List.find?_cons, e']
      rw [qAe e, b]; exact h2
    · have e' : ¬ q.1 = k := fun z => e (h1.trans z)
      have b : atKey (q :: qs) k = atKey qs k := by simp [atKey, List.find?_cons, e']
      rw [qAk e, b]; exact ih
theorem KT.keeps {H H' : Hp} {kvs : List (List Key × V)} {xs : List (List Key × Addr × Value)} (r : KT H kvs xs) (ht : ∀ b ys, H b = some (.tup ys) → H' b = some (.tup ys)) : KT H' kvs xs :=
  Paired.mapP r fun _ _ z => ⟨z.1, ht _ _ z.2.1, z.2.2⟩
section
variable {P : Program} {w : World} {H : Hp} {h : Heap} {a : Addr}
theorem qGr {u : HO} (ok : HOk P w H h) (e : Rd H a u) : ObjOk P w H h a u := e.ok ok
theorem qEq {kvs : List (Key × V)} (ok : HOk P w H h) (e : Rd H a (.dK kvs)) : kvs.length ≤ sizeLine ∧ (a == sysModules) = false ∧ ∃ vs, KV kvs vs ∧ h.DictOf (wf P w) a vs :=
  show ObjOk P w H h a (.dK kvs) from qGr ok e
end
def DGet (H : Hp) (a : Addr) (y : V) (r : Option V) : Prop :=
  (∃ kvs k, Rd H a (.dK kvs) ∧ y = kV k ∧ r = qA9 kvs k) ∨ ∃ kvs k b, Rd H a (.dT kvs) ∧ y = .ref b ∧ H b = some (.tup (k.map kV)) ∧ r = qA9 kvs k
def DPut (H : Hp) (a : Addr) (y v : V) (H' : Hp) : Prop :=
  (∃ kvs k, H a = some (.dK kvs) ∧ y = kV k ∧ kvs.length < sizeLine ∧ H' = upd H a (.dK (qGb kvs k v))) ∨
  ∃ kvs k b, H a = some (.dT kvs) ∧ y = .ref b ∧ H b = some (.tup (k.map kV)) ∧ kvs.length < sizeLine ∧ H' = upd H a (.dT (qGb kvs k v))
theorem DGet.k {H : Hp} {a : Addr} {kvs : List (Key × V)} {k : Key} (e : H a = some (.dK kvs)) : DGet H a (kV k) (qA9 kvs k) := .inl ⟨kvs, k, .inl e, rfl, rfl⟩
theorem DGet.t {H : Hp} {a b : Addr} {kvs : List (List Key × V)} {k : List Key} (e : H a = some (.dT kvs)) (eb : H b = some (.tup (k.map kV))) : DGet H a (.ref b) (qA9 kvs k) := .inr ⟨kvs, k, b, .inl e, rfl, eb, rfl⟩
theorem DPut.k {H : Hp} {a : Addr} {kvs : List (Key × V)} {k : Key} {v : V} (e : H a = some (.dK kvs)) (hl : kvs.length < sizeLine) : DPut H a (kV k) v (upd H a (.dK (qGb kvs k v))) := .inl ⟨kvs, k, e, rfl, hl, rfl⟩
theorem DPut.t {H : Hp} {a b : Addr} {kvs : List (List Key × V)} {k : List Key} {v : V} (e : H a = some (.dT kvs)) (eb : H b = some (.tup (k.map kV))) (hl : kvs.length < sizeLine) :
    DPut H a (.ref b) v (upd H a (.dT (qGb kvs k v))) := .inr ⟨kvs, k, b, e, rfl, eb, hl, rfl⟩
section
variable {X : Cx} {pins : List (Addr × Obj)} {σ : St} {H : Hp} {s : Shared} {a : Addr} {y v : V} {u r : Value} {o : Option V} {A : Around} {E : Value → Shared → Prop}
end
section
variable {X : Cx} {pins : List (Addr × Obj)} {σ : St} {H : Hp} {s : Shared} {a : Addr} {kvs : List (Key × V)} {k : Key} {u : Value} {A : Around} {E : Value → Shared → Prop}
end
section
variable {X : Cx} {o i e value : Expr} {pos pos' tpos : Pos} {td ty tv : TE}
end
section
variable {X : Cx} {pos : Pos}
end
structure M1 (X : Cx) (o : Expr) (m : Str) (apos : Pos) (e : Expr) (cpos : Pos) : Prop where
  base : attributeBase o m X.env (eval o X.env) = eval o X.env
  few : ((backTo cpos (starEach [e] X.env)).all (fun x => !x.1) && (backToKw cpos (keywordEach [] X.env)).all (fun x => x.1.isSome)
    && decide (([e] : List Expr).length + ([] : List Keyword).length + (if ([] : List Keyword).isEmpty then 0 else 1) < 30)) = true
  line : (apos.endLine == cpos.line) = true
  trees : backTo cpos (starEach [e] X.env) = [(false, eval e X.env)]
structure M2 (X : Cx) (o : Expr) (m : Str) (apos : Pos) (e f : Expr) (cpos : Pos) : Prop where
  base : attributeBase o m X.env (eval o X.env) = eval o X.env
  few : ((backTo cpos (starEach [e, f] X.env)).all (fun x => !x.1) && (backToKw cpos (keywordEach [] X.env)).all (fun x => x.1.isSome)
    && decide (([e, f] : List Expr).length + ([] : List Keyword).length + (if ([] : List Keyword).isEmpty then 0 else 1) < 30)) = true
  line : (apos.endLine == cpos.line) = true
  trees : backTo cpos (starEach [e, f] X.env) = [(false, eval e X.env), (false, eval f X.env)]
section
variable {X : Cx} {pins : List (Addr × Obj)} {σ : St} {H : Hp} {s : Shared} {a : Addr} {y d : V} {u r : Value} {o : Option V} {A : Around} {E : Value → Shared → Prop}
end
section
variable {X : Cx} {o e f : Expr} {apos cpos : Pos} {td ty tx : TE}
end
section
variable {X : Cx} {pins : List (Addr × Obj)} {σ : St} {H : Hp} {s : Shared} {a : Addr} {kvs : List (Key × V)} {A : Around} {E : Value → Shared → Prop}
end
section
variable {X : Cx} {pins : List (Addr × Obj)} {σ : St} {H : Hp} {s : Shared} {a : Addr} {y : V} {u : Value} {A : Around} {E : Value → Shared → Prop}
end
end L2
namespace Att
open PySem PySem.W PySem.Calls PyProof.Rows
section
variable {prog : Program} {w : World} {A : Around} {E : Value → Shared → Prop} {s : Shared} {K : Frag}
end
end Att
namespace L2
open PySem PySem.Spec PyProof.Rows
end L2
namespace L2
open PySem PySem.Spec PyProof.Rows
end L2
namespace L2
open PySem PySem.Spec PyProof.Rows
section
variable {P : Program} {w : World} {K : PySem.W.Frag} {mg : Str → Option Value} {base : Heap}
end
section
variable {X : Cx}
end
section
variable {κ : Type} [DecidableEq κ]
end
end L2
namespace Mt
theorem qEt (a b : Int) : a.fmod b = a - b * a.fdiv b := by
  have := Int.fmod_add_mul_fdiv a b
  omega
theorem zz (a b : Int) : Int.gcd b (a.fmod b) = Int.gcd a b := by
  apply Nat.dvd_antisymm
  · refine Int.dvd_gcd ?_ (Int.gcd_dvd_left b (a.fmod b))
    have h1 : ((Int.gcd b (a.fmod b) : Nat) : Int) ∣ b := Int.gcd_dvd_left ..
    have h2 : ((Int.gcd b (a.fmod b) : Nat) : Int) ∣ a.fmod b := Int.gcd_dvd_right ..
    have h3 := Int.dvd_add h2 (Int.dvd_trans h1 (Int.dvd_mul_right b (a.fdiv b)))
    have e : a.fmod b + b * a.fdiv b = a := Int.fmod_add_mul_fdiv a b
    rwa [e] at h3
  · refine Int.dvd_gcd (Int.gcd_dvd_right ..) ?_
    rw [qEt]
    exact Int.dvd_sub (Int.gcd_dvd_left ..) (Int.dvd_trans (Int.gcd_dvd_right ..) (Int.dvd_mul_right ..))
theorem qB9 (a b : Int) (h : b ≠ 0) : (a.fmod b).natAbs < b.natAbs := by
  rcases Int.lt_or_gt_of_ne h with h | h
  · have h1 := Int.fmod_lt_of_pos (-a) (show 0 < -b by omega)
    have h2 := Int.fmod_nonneg_of_pos (-a) (show 0 < -b by omega)
    rw [Int.neg_fmod_neg] at h1 h2
    omega
  · have h1 := Int.fmod_lt_of_pos a h
    have h2 := Int.fmod_nonneg_of_pos a h
    omega
def sg (t b : Int) : Int := if b < 0 then -((Int.gcd t b : Nat) : Int) else ((Int.gcd t b : Nat) : Int)
def jO (t b : Int) : Int := t.fdiv (sg t b)
def qm (t b : Int) : Int := b.fdiv (sg t b)
theorem z8 {t b : Int} (h : b ≠ 0) : 0 < Int.gcd t b := by
  rcases Nat.eq_zero_or_pos (Int.gcd t b) with z | z
  · rw [Int.gcd_eq_zero_iff] at z
    exact absurd z.2 h
  · exact z
theorem qG4 {t b : Int} (h : b ≠ 0) : sg t b ≠ 0 := by
  have := z8 (t := t) h
  unfold sg; split <;> omega
theorem qCs (t b : Int) : sg t b ∣ t := by
  unfold sg; split
  · exact Int.neg_dvd.mpr (Int.gcd_dvd_left ..)
  · exact Int.gcd_dvd_left ..
theorem qCt (t b : Int) : sg t b ∣ b := by
  unfold sg; split
  · exact Int.neg_dvd.mpr (Int.gcd_dvd_right ..)
  · exact Int.gcd_dvd_right ..
theorem qAo (t b : Int) : (sg t b).natAbs = Int.gcd t b := by
  unfold sg; split <;> omega
theorem qEk (t b : Int) : jO t b * sg t b = t := Int.fdiv_mul_cancel (qCs t b)
theorem qCu (t b : Int) : qm t b * sg t b = b := Int.fdiv_mul_cancel (qCt t b)
theorem jX {t b : Int} (h : b ≠ 0) : 0 < qm t b := by
  have e := qCu t b
  have g := z8 (t := t) h
  by_cases hb : b < 0
  · have s : sg t b = -((Int.gcd t b : Nat) : Int) := by unfold sg; rw [if_pos hb]
    rw [s] at e
    rcases Int.lt_trichotomy (qm t b) 0 with z | z | z
    · have := Int.mul_pos_of_neg_of_neg z (show -((Int.gcd t b : Nat) : Int) < 0 by omega)
      omega
    · rw [z] at e; omega
    · exact z
  · have s : sg t b = ((Int.gcd t b : Nat) : Int) := by unfold sg; rw [if_neg hb]
    rw [s] at e
    rcases Int.lt_trichotomy (qm t b) 0 with z | z | z
    · have := Int.mul_neg_of_neg_of_pos z (show 0 < ((Int.gcd t b : Nat) : Int) by omega)
      omega
    · rw [z] at e; omega
    · exact z
theorem vJ {t b : Int} (h : b ≠ 0) : Int.gcd (jO t b) (qm t b) = 1 := by
  have e := Int.gcd_mul_right (jO t b) (sg t b) (qm t b)
  rw [qEk, qCu, qAo] at e
  have g := z8 (t := t) h
  have e' : 1 * Int.gcd t b = (jO t b).gcd (qm t b) * Int.gcd t b := by omega
  exact (Nat.eq_of_mul_eq_mul_right g e').symm
theorem j1 (t b : Int) : jO t b * b = t * qm t b := by
  have e1 := qEk t b
  have e2 := qCu t b
  calc jO t b * b = jO t b * (qm t b * sg t b) := by rw [e2]
    _ = (jO t b * sg t b) * qm t b := by rw [Int.mul_comm (qm t b), Int.mul_assoc]
    _ = t * qm t b := by rw [e1]
theorem jo {t b : Int} (h : b ≠ 0) : (jO t b).natAbs ≤ t.natAbs := by
  have e := congrArg Int.natAbs (qEk t b)
  rw [Int.natAbs_mul, qAo] at e
  have g := z8 (t := t) h
  rw [← e]
  exact Nat.le_mul_of_pos_right _ g
theorem jf {t b : Int} (h : b ≠ 0) : (qm t b).natAbs ≤ b.natAbs := by
  have e := congrArg Int.natAbs (qCu t b)
  rw [Int.natAbs_mul, qAo] at e
  have g := z8 (t := t) h
  have := Nat.le_mul_of_pos_right (qm t b).natAbs g
  omega
end Mt
namespace Mt
theorem qEm {p q p' q' : Int} (hq : 0 < q) (hq' : 0 < q') (g : Int.gcd p q = 1) (g' : Int.gcd p' q' = 1) (c : p * q' = p' * q) : p = p' ∧ q = q' := by
  have d1 : q ∣ q' := by
    have h : q ∣ p * q' := by rw [c]; exact Int.dvd_mul_left ..
    have n : q.natAbs ∣ p.natAbs * q'.natAbs := by
      have := Int.natAbs_dvd_natAbs.mpr h
      rwa [Int.natAbs_mul] at this
    have co : Nat.Coprime q.natAbs p.natAbs := by
      show Nat.gcd q.natAbs p.natAbs = 1
      rw [Nat.gcd_comm]; exact g
    exact Int.natAbs_dvd_natAbs.mp (Nat.Coprime.dvd_of_dvd_mul_left co n)
  have d2 : q' ∣ q := by
    have h : q' ∣ p' * q := by rw [← c]; exact Int.dvd_mul_left ..
    have n : q'.natAbs ∣ p'.natAbs * q.natAbs := by
      have := Int.natAbs_dvd_natAbs.mpr h
      rwa [Int.natAbs_mul] at this
    have co : Nat.Coprime q'.natAbs p'.natAbs := by
      show Nat.gcd q'.natAbs p'.natAbs = 1
      rw [Nat.gcd_comm]; exact g'
    exact Int.natAbs_dvd_natAbs.mp (Nat.Coprime.dvd_of_dvd_mul_left co n)
  have e : q = q' := by
    have h1 := Int.le_of_dvd hq' d1
    have h2 := Int.le_of_dvd hq d2
    omega
  subst e
  exact ⟨Int.eq_of_mul_eq_mul_right (by omega) c, rfl⟩
theorem qE5 {t b p q : Int} (h : b ≠ 0) (hq : 0 < q) (g : Int.gcd p q = 1) (c : p * b = t * q) : jO t b = p ∧ qm t b = q := by
  have e := j1 t b
  have k : jO t b * q = p * qm t b := by
    have : (jO t b * q) * b = (p * qm t b) * b := by
      calc (jO t b * q) * b = (jO t b * b) * q := by rw [Int.mul_assoc, Int.mul_comm q b, ← Int.mul_assoc]
        _ = (t * qm t b) * q := by rw [e]
        _ = (t * q) * qm t b := by rw [Int.mul_assoc, Int.mul_comm (qm t b) q, ← Int.mul_assoc]
        _ = (p * b) * qm t b := by rw [c]
        _ = (p * qm t b) * b := by rw [Int.mul_assoc, Int.mul_comm b, ← Int.mul_assoc]
    exact Int.eq_of_mul_eq_mul_right h this
  exact qEm (jX h) hq (vJ h) g k
end Mt
namespace Mt
def plP (p q r s k : Int) : Int := jO (p * s + k * r * q) (q * s)
def plQ (p q r s k : Int) : Int := qm (p * s + k * r * q) (q * s)
theorem qGa {p q r s k : Int} (hq : 0 < q) (hs : 0 < s) : 0 < plQ p q r s k := jX (Int.ne_of_gt (Int.mul_pos hq hs))
theorem qEe {p q r s k : Int} (hq : 0 < q) (hs : 0 < s) : (plP p q r s k).natAbs ≤ (p * s + k * r * q).natAbs := jo (Int.ne_of_gt (Int.mul_pos hq hs))
theorem qD9 {p q r s k : Int} (hq : 0 < q) (hs : 0 < s) : (plQ p q r s k).natAbs ≤ (q * s).natAbs := jf (Int.ne_of_gt (Int.mul_pos hq hs))
end Mt
namespace Mt
end Mt
set_option maxHeartbeats 4000000
namespace L3
open PySem PySem.Spec PyProof.Rows L2
def CMulB (i j : Int) : Prop := CMul i j ∨ (i.natAbs < 2 ^ 60000 ∧ j.natAbs < 2 ^ 60000)
theorem x6 {i : Int} (h : i.natAbs < 2 ^ 60000) : Builtin.Int.intBits i ≤ 2 ^ 20 := by
  unfold Builtin.Int.intBits
  split
  · exact Nat.zero_le _
  · rename_i h0
    have hz : i.natAbs ≠ 0 := by
      intro z
      apply h0
      have : i = 0 := by omega
      rw [this]; rfl
    have := (Nat.log2_lt hz).mpr h
    have e : (2 : Nat) ^ 20 = 1048576 := by decide
    omega
theorem CMulB.ok {i j : Int} (h : CMulB i j) : IntMulOk i j := by
  rcases h with h | ⟨h1, h2⟩
  · exact h.ok
  · exact IntMulOk.of_bits (x6 h1) (x6 h2)
def CDivB (_ j : Int) : Prop := j ≠ 0 ∧ j.natAbs < 2 ^ 8000
theorem CDivB.ok {i j : Int} (h : CDivB i j) : Builtin.divisionGoesByPylong i j = false := by
  refine PyProof.noPylong_of_log2 ?_
  have hz : j.natAbs ≠ 0 := by have := h.1; omega
  have := (Nat.log2_lt hz).mpr h.2
  omega
section
variable {X : Cx}
theorem jV : OpR X (binaryOp .Mult) (rI CMulB fun i j => .int (i * j)) := opI fun _ _ _ _ _ _ _ hc q => mul_int q hc.ok
theorem qk : OpR X (binaryOp .FloorDiv) (rI CDivB fun i j => .int (i.fdiv j)) := opI fun _ _ _ _ _ _ _ hc q => floordiv_int hc.1 q (.inl hc.ok)
theorem jB : CallR X (.builtin "isinstance") (fun xs H Q => ∃ x c t b, xs = [x, c] ∧ vR X.K H x t ∧
    (∃ n, c = .ty n ∧ PySem.W.kitOne X.K t (.type n) = some b ∨ ∃ a, c = .ref a ∧ PySem.W.kitOne X.K t (.ref a) = some b) ∧ Q (.bl b) H) := by
  intro pins s σ H xs us Q I r h
  obtain ⟨x, c, t, b, rfl, ty, hk, q⟩ := h
  obtain ⟨u, u', rfl, rx, rc⟩ := qFi r
  obtain ⟨n, ⟨rfl, e⟩ | ⟨a, rfl, e⟩⟩ := hk
  · cases rc
    exact wD I rx ty e fun tk => ⟨.bl b, H, I.tok _, rfl, q⟩
  · cases rc
    exact wD I rx ty e fun tk => ⟨.bl b, H, I.tok _, rfl, q⟩
def zj (xs ys : List V) : Bool := (List.range (min xs.length ys.length)).all (fun j => eqV (xs.getD j .non) (ys.getD j .non)) && xs.length == ys.length
theorem zS {A : Around} {s : Shared} {xs ys : List V} {us ws : List Value} (r1 : Vals xs us) (r2 : Vals ys ws) (f1 : xs.all j3 = true) (f2 : ys.all j3 = true) :
    ∀ j (h1 : j < us.toArray.size) (h2 : j < ws.toArray.size), SeqAt.EqAt A s us.toArray[j] ws.toArray[j] (eqV (xs.getD j .non) (ys.getD j .non)) := by
  intro j h1 h2
  have l1 := r1.length
  have l2 := r2.length
  rw [List.size_toArray] at h1 h2
  have g1 : xs[j]? = some xs[j] := List.getElem?_eq_getElem (by omega)
  have g2 : ys[j]? = some ys[j] := List.getElem?_eq_getElem (by omega)
  obtain ⟨u, e1, q1⟩ := r1.get g1
  obtain ⟨w, e2, q2⟩ := r2.get g2
  have d1 : xs.getD j .non = xs[j] := by rw [List.getD_eq_getElem?_getD, g1]; rfl
  have d2 : ys.getD j .non = ys[j] := by rw [List.getD_eq_getElem?_getD, g2]; rfl
  have c1 : us.toArray[j] = u := by
    have := (List.getElem?_eq_some_iff.mp e1).2
    simpa using this
  have c2 : ws.toArray[j] = w := by
    have := (List.getElem?_eq_some_iff.mp e2).2
    simpa using this
  rw [d1, d2, c1, c2]
  exact vj q1 q2 (List.all_eq_true.mp f1 _ (List.getElem_mem _)) (List.all_eq_true.mp f2 _ (List.getElem_mem _))
def qGg (K : PySem.W.Frag) (neg : Bool) : R2 := fun x y H Q => ∃ p q xs ys, x = .ref p ∧ y = .ref q ∧ SqT K H p xs ∧ SqT K H q ys ∧ xs.all j3 = true ∧ ys.all j3 = true ∧ Q (.bl (if neg then !zj xs ys else zj xs ys)) H
theorem qDw (hu : X.A.units < cLine) : OpR X (compareOp .Eq) (qGg X.K false) := by
  intro pins s σ H x y v u Q I rx ry h
  obtain ⟨p, q, xs, ys, rfl, rfl, h1, h2, f1, f2, k⟩ := h
  cases rx; cases ry
  obtain ⟨us, r1, t1, _⟩ := I.tuple h1
  obtain ⟨ws, r2, t2, _⟩ := I.tuple h2
  have l1 : us.toArray.size = xs.length := by rw [List.size_toArray]; exact r1.length.symm
  have l2 : ws.toArray.size = ys.length := by rw [List.size_toArray]; exact r2.length.symm
  refine SeqAt.eq_tupleAt t1 t2 hu (zS r1 r2 f1 f2) ?_
  rw [l1, l2]
  exact ⟨.bl (zj xs ys), H, I, rfl, k⟩
theorem qFy (hu : X.A.units < cLine) : OpR X (compareOp .NotEq) (qGg X.K true) := by
  intro pins s σ H x y v u Q I rx ry h
  obtain ⟨p, q, xs, ys, rfl, rfl, h1, h2, f1, f2, k⟩ := h
  cases rx; cases ry
  obtain ⟨us, r1, t1, _⟩ := I.tuple h1
  obtain ⟨ws, r2, t2, _⟩ := I.tuple h2
  have l1 : us.toArray.size = xs.length := by rw [List.size_toArray]; exact r1.length.symm
  have l2 : ws.toArray.size = ys.length := by rw [List.size_toArray]; exact r2.length.symm
  refine SeqAt.RcNeAt.tuples t1 t2 hu (zS r1 r2 f1 f2) _ _ _ _ ?_
  rw [l1, l2]
  exact ⟨.bl (!zj xs ys), H, I, rfl, k⟩
end
end L3
set_option maxHeartbeats 4000000
namespace L3
open PySem PySem.Spec PyProof.Rows L2
def qc (X : Cx) (scope : Scope) (cl : List (Str × Addr)) (C : Addr) (N : List Str) (s : Shared) (H : Hp) (fp : List Addr) : Cx :=
  { X with N := N, s₀ := s, H₀ := H, env := compEnvC scope cl C X.env, outer := X.stack, stack := X.stack, ex := fp, fn := fun _ => false, pn := [] }
def xD (js : List Nat) (σ : L2.St) : L2.St := js.map fun j => (σ[j]?).join
def vN (js : List Nat) (te : TE) (σ : L2.St) (Q : VK) (J : It) (H1 : Hp) : Prop := ∃ W : Nat → Nat → List V → Hp → Prop, (∃ m, W 0 m [] H1) ∧ ∀ i m acc H2, W i m acc H2 →
  acc.length < sizeLine ∧ ((J.stop i H2 ∧ ∀ D, H2 D = none → Q (.ref D) (upd H2 D (.lst acc))) ∨
    (J.go i H2 ∧ ∀ x H3, J.yld i H2 x H3 → te (some x :: xD js σ) H3 fun v H4 => ∃ m', m' < m ∧ W (i + 1) m' (acc ++ [v]) H4))
def qFv (js : List Nat) (wi : TI) (te : TE) : TE := fun σ H Q => wi σ H (vN js te σ Q)
theorem qBk {X : Cx} {elt iter : Expr} {x : Str} {px : Pos} {scope : Scope} {cl : List (Str × Addr)} {pos : Pos} {wi : TI} {te : TE} (ys : List Str) (js : List Nat)
    (hcm : X.calm = true) (hi : PI X (.Name x px) iter wi) (he : ∀ C s H fp, PE (qc X scope cl C (x :: ys) s H fp).nox elt te)
    (hclos : closureFor scope X.env = pure cl := by rfl)
    (hcl : cl.map (fun p => X.env.cells.lookup p.1) = cl.map (fun p => some p.2) := by rfl)
    (hcell : (scope.names.all fun p => p.2 != .cell) = true := by rfl) (hkind : scope.kind = .function := by rfl)
    (hnames : (scope.names.all fun p => p.2 != .local || scope.names.lookup p.1 == some .local) = true := by rfl)
    (hx : scope.names.lookup x = some .local := by rfl)
    (hhas : ((relabel scope X.env).names.all fun p => (p.2 != .cell && p.2 != .free) || (cl.lookup p.1).isSome) = true := by rfl)
    (hnd : (x :: ys).Nodup := by decide)
    (hjs : js.map (fun j => X.N[j]?) = ys.map some := by rfl)
    (hys : (ys.all fun y => ((relabel scope X.env).names.lookup y == some .cell || (relabel scope X.env).names.lookup y == some .free) && (X.env.scope.names.lookup y == some .cell || X.env.scope.names.lookup y == some .free)) = true := by rfl)
    (hs : ∀ x, foldedSetIterable iter X.env x = pure x := by intro _; rfl)
    {pins : List (Addr × Obj)} {s : Shared} {σ : L2.St} {H : Hp} (R : V → Hp → Prop) (use : Option (Value → Sem Unit)) (Q : Value → Shared → Prop) (I : Inv X pins σ H s) (h : qFv js wi te σ H R)
    (fin : ∀ (v : V) (u : Value) (H' : Hp) (s' : Shared) (C : Addr), Inv X pins σ H' s' → RelV v u → R v H' → (∃ m, s'.heap.Ns C m) → H' C = none → C ≠ X.env.locals → X.s₀.heap.objs.size ≤ C → (∀ y c, X.env.cells.lookup y = some c → c ≠ C) → (∀ p ∈ X.pn ++ pins, p.1 ≠ C) →
      compPost (model X.prog X.w) X.A X.xe use Q u C (.ok .next) s') :
    wpAny (model X.prog X.w) X.A (comprehension (.ListComp elt [⟨.Name x px, iter, [], 0⟩] scope pos) scope X.env (firstIterPos [⟨.Name x px, iter, [], 0⟩] pos) (newList []) false (eval iter X.env) use) Q X.xe s := by
  have hcell' : ∀ y ∈ scope.names, y.2 ≠ .cell := fun y hy => by
    have := List.all_eq_true.mp hcell y hy
    simpa using this
  have hnm : ∀ y ∈ scope.names, y.2 = .local → scope.names.lookup y.1 = some .local := fun y hy e => by
    have := List.all_eq_true.mp hnames y hy
    rw [e] at this
    simpa using this
  have clX : ∀ y c, cl.lookup y = some c → X.env.cells.lookup y = some c := fun y c e => by
    have hm := PySem.mem_of_lookup e
    obtain ⟨k, hk, e2⟩ := List.mem_iff_getElem.mp hm
    have := congrArg (fun l => l[k]?) hcl
    simp only [List.getElem?_map, List.getElem?_eq_getElem hk, Option.map_some, e2] at this
    exact Option.some.inj this
  have has : ∀ y, ((relabel scope X.env).names.lookup y = some .cell ∨ (relabel scope X.env).names.lookup y = some .free) → ∃ c, cl.lookup y = some c := fun y hy => by
    have key : ∀ k : NameKind, (k = .cell ∨ k = .free) → (relabel scope X.env).names.lookup y = some k → ∃ c, cl.lookup y = some c := fun k hk e => by
      have := List.all_eq_true.mp hhas _ (PySem.mem_of_lookup e)
      rcases hk with rfl | rfl <;> exact Option.isSome_iff_exists.mp (by simpa using this)
    rcases hy with e | e
    · exact key _ (.inl rfl) e
    · exact key _ (.inr rfl) e
  refine wpAny_comprehension_free (use := use) rfl hs hclos hkind hnm (thn (hi pins s σ H _ I h) fun v s1 h1 => thn h1 fun itv s2 h2 => ?_)
  obtain ⟨it, fp, tn, J, H2, e, I2, T, st2, f2, W, ⟨m0, w0⟩, turn⟩ := h2
  subst e
  refine wpAny_newObj_type (wpAny_newFunctionEnv hcell' (by intro y hy; simp at hy) (fun h₁ hns hsb => ?_) hkind)
  dsimp only at hns hsb ⊢
  generalize hG : s2.heap.push { cls := .type "list", dict := none, data := .seq ([] : List Value).toArray } = G at hns hsb ⊢
  have szG : G.objs.size = s2.heap.objs.size + 1 := by rw [← hG, Heap.size_push]
  have inG : ∀ b o, s2.heap.get? b = some o → G.get? b = some o := fun b o e => hG ▸ Heap.get?_push_of_some _ e
  have ltC : ∀ b o, s2.heap.get? b = some o → b ≠ G.objs.size := fun b o e => by rw [szG]; exact Nat.ne_of_lt (Nat.lt_succ_of_lt (Heap.lt_size e))
  have ltD : ∀ b o, s2.heap.get? b = some o → b ≠ s2.heap.objs.size := fun b o e => Nat.ne_of_lt (Heap.lt_size e)
  have DC : s2.heap.objs.size ≠ G.objs.size := by rw [szG]; omega
  have old : ∀ b o, s2.heap.get? b = some o → h₁.get? b = some o := fun b o e => hsb.extBut b o (ltC b o e) (Heap.get?_push_of_some _ (inG b o e))
  have hacc : h₁.PlainList s2.heap.objs.size #[] := ⟨_, hsb.extBut _ _ DC (Heap.get?_push_of_some _ (hG ▸ Heap.get?_push_size _ rfl))⟩
  have fpO : ∀ b ∈ fp, ∃ o, s2.heap.get? b = some o := fun b hb => let ⟨o, e, _⟩ := T.obj 0 _ st2 b hb; ⟨o, e⟩
  have stkO : ∀ b ∈ frs X.stack, ∃ o, s2.heap.get? b = some o := fun b hb => by
    obtain ⟨_, o, ho, _⟩ := I2.stack.mem hb
    exact ⟨o, ho⟩
  have freshH : ∀ a, s2.heap.objs.size ≤ a → H2 a = none := fun a ha => I2.hok.fresh ha
  have stkFp : ∀ b ∈ fp, b ∉ frs X.stack := fun b hb z => by
    rcases List.mem_cons.mp (I2.stkSub b z) with q | q
    · exact (f2 b hb).2.1 q
    · exact (f2 b hb).2.2.1 q
  have okX : (qc X scope cl G.objs.size (x :: ys) s2 H2 fp).Ok := {
    mod := I2.ok.mod
    kind := hkind
    glob := I2.ok.glob
    blt := I2.ok.blt
    above := by show s2.heap.objs.size ≤ G.objs.size; rw [szG]; omega
    inj := fun y z c e1 e2 => I2.ok.inj y z c (clX y c e1) (clX z c e2)
    has := fun y hy => has y hy
    cab := fun y c e _ => absurd (show false = true from e) Bool.false_ne_true
    hd := I2.ok.hd
    frames := I2.ok.frames
    stk := .inl rfl
    exf := fun b hb => by
      obtain ⟨o, e⟩ := fpO b hb
      exact ⟨ltC b o e, fun y c e1 => (f2 b hb).2.2.2.2.1 y c (clX y c e1)⟩
    bs := I2.bs
    bsz := Nat.le_trans I2.ok.bsz I2.sz
    noex := fun b o e hb => by
      rcases (f2 b hb).2.2.2.1 with q | q
      · exact I2.ok.noex b o e q
      · exact Nat.lt_irrefl _ (Nat.lt_of_lt_of_le (Nat.lt_of_lt_of_le (Heap.lt_size e) I2.ok.bsz) q)
    exfs := stkFp
    funs := I2.stack
    frf := I2.stkFree }
  have lenY : js.length = ys.length := by have := congrArg List.length hjs; simpa using this
  have I0 : Inv (qc X scope cl G.objs.size (x :: ys) s2 H2 fp) [] (none :: xD js σ) H2 { s2 with heap := h₁, toks := s2.toks + ([] : List (Str × Value)).length } := by
    refine ⟨okX, rfl, I2.bare, Un.kept old, ⟨_, hns, fun k y v e1 e2 e3 => ?_⟩, fun y c e => ?_, freshH _ (by show s2.heap.objs.size ≤ G.objs.size; rw [szG]; omega), fun y c e => I2.freeC y c (clX y c e), fun p hp => absurd (show p ∈ ([] : List (Addr × Obj)) from hp) (by simp), I2.hok.kept old, ?_⟩
    · cases k with
      | zero => cases e2
      | succ k =>
        have e1' : ys[k]? = some y := e1
        have e2' : (xD js σ)[k]? = some (some v) := e2
        unfold xD at e2'
        rw [List.getElem?_map] at e2'
        cases ej : js[k]? with
        | none => rw [ej] at e2'; cases e2'
        | some j =>
          rw [ej] at e2'
          have e4 : (σ[j]?).join = some v := Option.some.inj e2'
          have e5 : σ[j]? = some (some v) := by
            cases q : σ[j]? with
            | none => rw [q] at e4; cases e4
            | some o => rw [q] at e4; exact congrArg some e4
          have e6 : X.N[j]? = some y := by
            have := congrArg (fun l => l[k]?) hjs
            simp only [List.getElem?_map, ej, e1', Option.map_some] at this
            exact Option.some.inj this
          have hy := List.all_eq_true.mp hys y (List.mem_of_getElem? e1')
          simp only [Bool.and_eq_true, Bool.or_eq_true, beq_iff_eq] at hy
          obtain ⟨ky, ko⟩ := hy
          obtain ⟨m, hn, hl⟩ := I2.loc
          obtain ⟨u, r, lk⟩ := hl j y v e6 e5 (.inr ko)
          refine ⟨u, r, .inr ⟨ky, ?_⟩⟩
          rcases lk with ⟨kl, _⟩ | ⟨_, c, ec, hc⟩
          · have kl' : X.env.scope.names.lookup y = some .local := kl
            rw [kl'] at ko
            rcases ko with z | z <;> cases z
          · obtain ⟨c', ec'⟩ := has y ky
            have := clX y c' ec'
            rw [ec] at this
            cases this
            obtain ⟨o, ho, hd⟩ := hc
            exact ⟨c, ec', o, old c o ho, hd⟩
    · obtain ⟨v, o, ho, hd⟩ := I2.cell y c (clX y c e)
      exact ⟨v, o, old c o ho, hd⟩
    · show (none :: xD js σ).length = (x :: ys).length
      simp [xD, lenY]
  have loop : ∀ s3 : Shared, s3 = { s2 with heap := h₁, toks := s2.toks + ([] : List (Str × Value)).length } →
      codeAny (model X.prog X.w) X.A (.compLoop (.ListComp elt [⟨.Name x px, iter, [], 0⟩] scope pos) 0 (.ref it) (.ref s2.heap.objs.size) (compEnvC scope cl G.objs.size X.env))
        (compPost (model X.prog X.w) X.A X.xe use Q (.ref s2.heap.objs.size) G.objs.size) s3 := by
    rintro s3 rfl
    have stat : ∀ {H' : Hp} (o : Obj), (∀ b ∈ fp, H' b = none) → ∀ b ∈ fp, qB8 (qc X scope cl G.objs.size (x :: ys) s2 H2 fp) [(s2.heap.objs.size, o)] H' b := fun {H'} o hn b hb => by
      obtain ⟨ob, eb⟩ := fpO b hb
      refine ⟨hn b hb, ltC b ob eb, stkFp b hb, .inl hb, fun y c e1 => (f2 b hb).2.2.2.2.1 y c (clX y c e1), fun p hp => ?_⟩
      have hp' : p = (s2.heap.objs.size, o) := by
        have : p ∈ [(s2.heap.objs.size, o)] := hp
        simpa using this
      rw [hp']
      exact Ne.symm (ltD b ob eb)
    refine codeAny_compLoop_list (fun n s' => ∃ i acc its H3, Inv (qc X scope cl G.objs.size (x :: ys) s2 H2 fp) [] (none :: xD js σ) H3 s' ∧ tn i s'.heap ∧ (∀ b ∈ fp, H3 b = none) ∧ s'.heap.PlainList s2.heap.objs.size its.toArray ∧ Vals acc its ∧ H3 s2.heap.objs.size = none ∧ W i n acc H3)
      ?_ m0 ⟨0, [], [], H2, I0, T.keep _ _ _ st2 fun b _ o e => old b o e, fun b hb => (f2 b hb).1, hacc, .nil, freshH _ (Nat.le_refl _), w0⟩
    rintro n s3 ⟨i, acc, its, H3, I3, st3, fr3, ⟨nn, pl3⟩, va3, hD3, w3⟩
    obtain ⟨hlen, cs⟩ := turn i n acc H3 w3
    have hal : acc.length = its.length := va3.length
    have nD : s2.heap.objs.size ∉ frs X.stack := fun z => by
      obtain ⟨o, e⟩ := stkO _ z
      exact ltD _ o e rfl
    have I3p : Inv (qc X scope cl G.objs.size (x :: ys) s2 H2 fp) [(s2.heap.objs.size, { cls := .type "list", data := .seq its.toArray nn })] (none :: xD js σ) H3 s3 := I3.pins_of fun p hp => by
      have e : p = (s2.heap.objs.size, { cls := .type "list", data := .seq its.toArray nn }) := by simpa using hp
      subst e
      exact ⟨pl3, hD3, DC, nD, fun v z => nomatch z⟩
    rcases cs with ⟨stop, q⟩ | ⟨go, step⟩
    · refine thn (T.done (qc X scope cl G.objs.size (x :: ys) s2 H2 fp) rfl rfl rfl hcm i _ s3 _ H3 _ I3p (stat _ fr3) st3 stop) fun r s4 hr => ?_
      obtain ⟨hr, I4⟩ := hr
      subst hr
      have pl4 := (I4.pin (s2.heap.objs.size, { cls := .type "list", data := .seq its.toArray nn }) (by simp)).1
      obtain ⟨m, hn, _⟩ := I4.loc
      have B := I4.base
      have un' : Un (frs X.stack) fp H2 (upd H3 s2.heap.objs.size (.lst acc)) s2.heap s4.heap := by
        refine ⟨fun b o e n hb hx => B.keep b o e n hb hx, fun b o e n hb hx => B.slot b o e n hb hx, fun b o e n hx => ?_, fun b o e hx => B.there b o e hx, fun b xs e => ?_, fun b o u e => ?_, fun b ps e => ?_⟩
        · rw [qW (ltD b o e)]
          exact B.free b o e n hx
        · have z := B.tups b xs e
          rw [qW (qL z hD3)]
          exact z
        · have z := B.frzs b o u e
          rw [qW (qL z hD3)]
          exact z
        · obtain ⟨more, z⟩ := B.tbls b ps e
          exact ⟨more, by rw [qW (qL z hD3)]; exact z⟩
      have freeC4 : H3 G.objs.size = none := I4.free
      have hok' : HOk X.prog X.w (upd H3 s2.heap.objs.size (.lst acc)) s4.heap := fun b u e => by
        by_cases hb : b = s2.heap.objs.size
        · subst hb
          rw [qC] at e
          cases e
          exact ⟨Nat.le_of_lt hlen, its, nn, va3, pl4⟩
        · rw [qW hb] at e
          exact (I4.hok b u e).stay (fun c v hc z => z) (fun c z => by rw [qW (qL z hD3)]; exact z) fun c xs z => by rw [qW (qL z hD3)]; exact z
      have hch : ∀ b ∈ fp, (b ∈ X.ex ∨ X.s₀.heap.objs.size ≤ b) ∧ b ≠ X.env.locals ∧ (∀ y c, X.env.cells.lookup y = some c → c ≠ b) ∧ ∀ p ∈ X.pn ++ pins, p.1 ≠ b := fun b hb => by
        obtain ⟨_, z1, _, z3, z4, z5⟩ := f2 b hb
        exact ⟨z3, z1, z4, z5⟩
      have I5 := I2.call' (s' := s4) (ch := fp) I4.os un' hok' I4.bare hch
      refine fin (.ref s2.heap.objs.size) _ _ s4 G.objs.size I5 rfl (q _ hD3) ⟨m, hn⟩ ?_ ?_ ?_ (fun y c e => ?_) fun p hp => ?_
      · rw [qW (Ne.symm DC)]; exact freeC4
      · rw [szG]; exact Nat.ne_of_gt (Nat.lt_succ_of_lt I2.lt)
      · rw [szG]; exact Nat.le_succ_of_le I2.sz
      · obtain ⟨v, o, ho, _⟩ := I2.cell y c e
        exact ltC c o ho
      · exact ltC p.1 p.2 (I2.pin p hp).1
    · refine thn (T.item (qc X scope cl G.objs.size (x :: ys) s2 H2 fp) rfl rfl rfl hcm i _ s3 _ H3 _ I3p (stat _ fr3) st3 go) fun r s4 hr => ?_
      obtain ⟨u, hr, h4⟩ := hr
      subst hr
      show wpAny (model X.prog X.w) X.A (letOwnedTupleGo (.Name x px) (.ref it) u >>= fun _ => assign (.Name x px) (compEnvC scope cl G.objs.size X.env) u) _ _ s4
      refine wpAny_bind (thn h4 fun _ s5 h5 => ?_)
      obtain ⟨v, H5, I5, r5, y5, st5, fr5⟩ := h5
      have I5' := I5.pinned (stat _ fr5) (T.obj _ _ st5)
      refine wpAny_assign_Name (xG (i := 0) I5' hnd rfl (.inl (lookup_relabel_local hx)) r5 (fun s6 I6 => ?_) (.inr (lookup_relabel_local hx)))
      have I6' : Inv (qc X scope cl G.objs.size (x :: ys) s2 H2 fp).nox _ _ H5 s6 := I6.wish _
      refine wpAny_mono (he G.objs.size s2 H2 fp _ s6 _ H5 _ I6' (step v H5 y5)) (fun y s7 h7 => ?_) fun _ _ z => z.elim
      obtain ⟨v7, H7, I7, r7, m', hm', w7⟩ := h7
      have I7 := I7.unwish
      have pinD := I7.pin (s2.heap.objs.size, { cls := .type "list", data := .seq its.toArray nn }) (by simp)
      refine wpAny_list_append_plain (items := its.toArray) ⟨nn, pinD.1⟩ (fun h' hp' hsb' => ?_) (by rw [List.size_toArray, ← hal]; exact Nat.le_of_lt hlen)
      have e8 : its.toArray.push y = (its ++ [y]).toArray := by simp
      rw [e8] at hp'
      have pf : ∀ b ∈ fp, ∀ o, s5.heap.get? b = some o → s7.heap.get? b = some o ∧ H7 b = none := fun b hb o e => by
        have z := I7.pin (b, o) (List.mem_append_right _ (List.mem_append_right _ (xP hb e)))
        exact ⟨z.1, z.2.1⟩
      have I8 : Inv (qc X scope cl G.objs.size (x :: ys) s2 H2 fp) [] (none :: xD js σ) H7 { s7 with heap := h' } := by
        have I7u : Inv (qc X scope cl G.objs.size (x :: ys) s2 H2 fp) [] (none :: xD js σ) H7 s7 := (I7.pins_of (pins' := []) fun p hp => absurd hp (by simp)).weak (by simp) fun k v e => by
          cases k with
          | zero => cases e
          | succ k => exact e
        refine I7u.turned (t' := s7.toks) (it := s2.heap.objs.size) (fun b o hb e => hsb'.extBut b o hb e) pinD.2.1 DC (.inr (Nat.le_refl _)) (fun y c e => ?_) fun p hp => absurd (show p ∈ ([] : List (Addr × Obj)) from hp) (by simp)
        obtain ⟨v, o, ho, _⟩ := I2.cell y c (clX y c e)
        exact ltD c o ho
      refine ⟨m', hm', i + 1, acc ++ [v7], its ++ [y], H7, I8, ?_, fun b hb => ?_, hp', va3.append (.cons r7 .nil), pinD.2.1, w7⟩
      · refine T.keep _ _ _ st5 fun b hb o e => hsb'.extBut b o ?_ (pf b hb o e).1
        obtain ⟨ob, eb⟩ := fpO b hb
        exact ltD b ob eb
      · obtain ⟨o, e, _⟩ := T.obj _ _ st5 b hb
        exact (pf b hb o e).2
  exact codeAny_compStart_list (loop _ rfl) (T.self _ 0 _ _ _ (T.keep _ _ _ st2 fun b _ o e => old b o e) (loop _ rfl))
theorem vM {X : Cx} {pins : List (Addr × Obj)} {σ : L2.St} {H : Hp} {s : Shared} {C : Addr} {h' : Heap} (I : Inv X pins σ H s) (hsb : Heap.SameBut C s.heap h') (h0 : H C = none) (h1 : C ≠ X.env.locals) (h2 : X.s₀.heap.objs.size ≤ C)
    (h3 : ∀ y c, X.env.cells.lookup y = some c → c ≠ C) (h4 : ∀ p ∈ X.pn ++ pins, p.1 ≠ C) : Inv X pins σ H { s with heap := h' } :=
  I.turned (t' := s.toks) (it := C) (fun b o hb e => hsb.extBut b o hb e) h0 h1 (.inr h2) h3 h4
theorem wq {X : Cx} {elt iter : Expr} {x : Str} {px : Pos} {scope : Scope} {cl : List (Str × Addr)} {pos : Pos} {wi : TI} {te : TE} (ys : List Str) (js : List Nat)
    (hcm : X.calm = true) (hi : PI X (.Name x px) iter wi) (he : ∀ C s H fp, PE (qc X scope cl C (x :: ys) s H fp).nox elt te)
    (hclos : closureFor scope X.env = pure cl := by rfl)
    (hcl : cl.map (fun p => X.env.cells.lookup p.1) = cl.map (fun p => some p.2) := by rfl)
    (hcell : (scope.names.all fun p => p.2 != .cell) = true := by rfl) (hkind : scope.kind = .function := by rfl)
    (hnames : (scope.names.all fun p => p.2 != .local || scope.names.lookup p.1 == some .local) = true := by rfl)
    (hx : scope.names.lookup x = some .local := by rfl)
    (hhas : ((relabel scope X.env).names.all fun p => (p.2 != .cell && p.2 != .free) || (cl.lookup p.1).isSome) = true := by rfl)
    (hnd : (x :: ys).Nodup := by decide)
    (hjs : js.map (fun j => X.N[j]?) = ys.map some := by rfl)
    (hys : (ys.all fun y => ((relabel scope X.env).names.lookup y == some .cell || (relabel scope X.env).names.lookup y == some .free) && (X.env.scope.names.lookup y == some .cell || X.env.scope.names.lookup y == some .free)) = true := by rfl)
    (hs : ∀ x, foldedSetIterable iter X.env x = pure x := by intro _; rfl) : PE X (.ListComp elt [⟨.Name x px, iter, [], 0⟩] scope pos) (qFv js wi te) := by
  intro pins s σ H Q I h
  rw [eval_ListComp]
  refine qBk ys js hcm hi he hclos hcl hcell hkind hnames hx hhas hnd hjs hys hs Q none (EP X pins σ Q) I h fun v u H' s' C I' r q hm h0 h1 h2 h3 h4 => ?_
  obtain ⟨m, hm⟩ := hm
  exact ⟨m, hm, fun h' hsb => ⟨v, H', vM I' hsb h0 h1 h2 h3 h4, r, q⟩⟩
def Nxt (n i : Nat) (P : Prop) : Prop := ∃ m', m' < n - i ∧ m' = n - (i + 1) ∧ i + 1 ≤ n ∧ P
theorem Nxt.mk {n i : Nat} {P : Prop} (h : i < n) (p : P) : Nxt n i P := ⟨n - (i + 1), by omega, rfl, h, p⟩
theorem qB3 {K : PySem.W.Frag} {a : Addr} {xs : List V} {js : List Nat} {te : TE} {σ : L2.St} {H : Hp} {Q : VK} (Pv : Nat → List V → Hp → Prop) (h0 : Pv 0 [] H) (hl : ∀ i acc H, i ≤ xs.length → Pv i acc H → SqL K H a xs ∧ acc.length < sizeLine)
    (hs : ∀ i x acc H, i < xs.length → xs[i]? = some x → Pv i acc H → te (some x :: xD js σ) H fun v H' => Nxt xs.length i (Pv (i + 1) (acc ++ [v]) H')) (hd : ∀ acc H, Pv xs.length acc H → ∀ D, H D = none → Q (.ref D) (upd H D (.lst acc))) : vN js te σ Q (Itl K a) H := by
  refine ⟨fun i m acc H => m = xs.length - i ∧ i ≤ xs.length ∧ Pv i acc H, ⟨xs.length, by simp, Nat.zero_le _, h0⟩, ?_⟩
  rintro i m acc H2 ⟨rfl, hi, p⟩
  obtain ⟨q, hz⟩ := hl i acc H2 hi p
  refine ⟨hz, ?_⟩
  by_cases hlt : i < xs.length
  · refine .inr ⟨⟨xs, xs[i], q, by simp [hlt]⟩, fun x H3 y => ?_⟩
    obtain ⟨e, y⟩ := y
    subst e
    exact hs i x acc _ hlt (y xs q) p
  · have e : i = xs.length := by omega
    subst e
    exact .inl ⟨⟨xs, q, Nat.le_refl _⟩, hd acc H2 p⟩
end L3
set_option maxHeartbeats 4000000
namespace L3
open PySem PySem.Spec PyProof.Rows L2
structure Def (K : PySem.W.Frag) (mg : Str → Option Value) (x : Str) (st : Stmt) (ps : List Str) (f : Addr) (fd : FuncData) : Prop where
  F : Fun K x x st f fd
  b : Binds K fd ps []
  m : mg x = some (.ref f)
section
variable {X : Cx}
theorem qI {k j : Nat} {x : Str} {st : Stmt} {ps : List Str} {f : Addr} {fd : FuncData} {sp : Sp} {e : Expr} {es : List Expr} {t : TA} {p pos : Pos} (D : Def X.K X.mg x st ps f fd) (F : FnOk X.prog X.w X.K X.mg X.base CX0 j f fd ps sp) (hr : Room k X.A) (hg : Gl X x) (ha : PA X (e :: es) t) (hj : j ≤ k := by decide)
    (hdb : (x == ("__debug__" : Str)) = false := by decide) (he : starEach (e :: es) X.env = (false, eval e X.env) :: starEach es X.env := by rfl) (hpl : (backTo pos (starEach es X.env)).any (·.1) = false := by rfl) :
    PE X (.Call (.Name x p) (e :: es) [] pos) (qFc sp [] E0 t) := qEj F (hr.mono hj) hg D.m D.F.kp D.b .nil qGm ha hdb he hpl
theorem zg {x : Str} {n : String} {pos : Pos} (hg : Gl X x) (hm : X.mg x = none) (hv : bootBuiltins x = some (.type n)) (hn : x ≠ "__name__" := by decide) (hd : (x == ("__debug__" : Str)) = false := by decide) : PE X (.Name x pos) (tC (.ty n)) :=
  qEn hg hm hv rfl hn hd
end
theorem kI {X : Cx} {K : PySem.W.Frag} (h : X.K = K) : IxR X (qG6 K) := h ▸ qN
def qGe (t : TS) : TS := fun D σ H => ∃ R : L2.St → Hp → Prop, t { D with nx := R } σ H ∧ ∀ σ' H', R σ' H' → D.nx σ' H'
theorem wV {X : Cx} {st : Stmt} {t : TS} (h : PS X st t) : PS X st (qGe t) := by
  rintro pins s σ H D I ⟨R, ht, hR⟩
  refine thn (h pins s σ H { D with nx := R } I ht) fun f s' q => ?_
  cases f with
  | next => obtain ⟨σ', H', I', r⟩ := q; exact ⟨σ', H', I', hR _ _ r⟩
  | brk => exact q
  | cont => exact q
  | ret u => exact q
theorem qD {H : Hp} {p : Addr} (h : H p = none) (o : HO) : Same H (upd H p o) := fun b u q => by rw [qW (qL q h)]; exact q
theorem Same.tup {K : PySem.W.Frag} {H H' : Hp} {a : Addr} {xs : List V} (e : Same H H') (h : SqT K H a xs) : SqT K H' a xs := by
  rcases h with (h | ⟨o, h⟩) | h
  · exact .inl (.inl (e _ _ h))
  · exact .inl (.inr ⟨o, e _ _ h⟩)
  · exact .inr h
end L3
set_option maxHeartbeats 4000000
namespace L3
open PySem PySem.Spec PyProof.Rows L2
section
variable {X : Cx}
def DE1 (K : PySem.W.Frag) (H : Hp) (x y : V) (b : Bool) : Prop := (j3 x = true ∧ j3 y = true ∧ b = eqV x y) ∨
  ∃ p q xs ys, x = .ref p ∧ y = .ref q ∧ SqT K H p xs ∧ SqT K H q ys ∧ xs.all j3 = true ∧ ys.all j3 = true ∧ b = zj xs ys ∧ (p = q → b = true)
theorem DE1.at {pins : List (Addr × Obj)} {σ : L2.St} {H : Hp} {s : Shared} {A : Around} {x y : V} {u v : Value} {b : Bool} (I : Inv X pins σ H s) (hu : A.units < cLine) (rx : RelV x u) (ry : RelV y v) (h : DE1 X.K H x y b) : SeqAt.EqAt A s u v b := by
  rcases h with ⟨f1, f2, rfl⟩ | ⟨p, q, xs, ys, rfl, rfl, h1, h2, f1, f2, rfl, hb⟩
  · exact vj rx ry f1 f2
  · cases rx; cases ry
    by_cases e : p = q
    · subst e
      rw [hb rfl]
      exact SeqAt.EqAt.same _
    · obtain ⟨us, r1, t1, _⟩ := I.tuple h1
      obtain ⟨ws, r2, t2, _⟩ := I.tuple h2
      have l1 : us.toArray.size = xs.length := by rw [List.size_toArray]; exact r1.length.symm
      have l2 : ws.toArray.size = ys.length := by rw [List.size_toArray]; exact r2.length.symm
      have := SeqAt.EqAt.of_refs e (SeqAt.RcAt.tuples t1 t2 hu (zS (A := A.in1) (s := s) r1 r2 f1 f2))
      rw [l1, l2] at this
      exact this
end
end L3
set_option maxHeartbeats 4000000
namespace L3
open PySem PySem.Spec PyProof.Rows L2
def kG (h : Heap) (e : Addr) (C : Value) (hd : Option Addr) : Prop :=
  ∃ (vs : Array Value) (sl : Array (Option Value)), h.get? e = some { cls := C, dict := none, data := .fields vs, slots := sl } ∧
    match hd with
    | none => vs[1]? = some .none
    | some T => vs[1]? = some (.ref T) ∧ T ≠ e ∧ ∃ oT ts, h.get? T = some oT ∧ oT.data = .fields ts ∧ ts[3]? = some .none
structure Noted (fs : List Addr) (e : Addr) (hd : Option Addr) (C : Value) (h h' : Heap) : Prop where
  keep : ∀ b o, h.get? b = some o → b ∉ fs → b ≠ e → some b ≠ hd → h'.get? b = some o
  slot : ∀ b o, h.get? b = some o → b ∈ fs → b ≠ e → some b ≠ hd → ∃ sl, h'.get? b = some { o with slots := sl }
  ent : ∃ T, (h.get? T = none ∨ hd = some T) ∧ kG h' e C (some T)
theorem Noted.before {fs : List Addr} {e T : Addr} {C : Value} {h h1 h' : Heap} (x : Noted fs e none C h1 h') (k : ∀ b, b ≠ T → h1.get? b = h.get? b) (t : ∃ o, h1.get? T = some o) : Noted fs e (some T) C h h' := by
  refine ⟨fun b o q hf he ht => x.keep b o ?_ hf he (by simp), fun b o q hf he ht => x.slot b o ?_ hf he (by simp), ?_⟩
  · rw [k b (fun z => ht (by rw [z]))]; exact q
  · rw [k b (fun z => ht (by rw [z]))]; exact q
  · obtain ⟨T', n | n, r⟩ := x.ent
    · refine ⟨T', .inl ?_, r⟩
      rw [← k T' (fun z => ?_)]; exact n
      obtain ⟨o, q⟩ := t
      rw [z, q] at n; cases n
    · cases n
section
variable {M : Model} {A : Around} {E : Value → Shared → Prop} {s : Shared}
theorem wA {base : Heap} {env : Env} {outer : List Env} {L e : Addr} {C head : Value} {vs : Array Value} {sl : Array (Option Value)} {had : Bool} {Q : Unit → Shared → Prop}
    (fr : A.frames = some (env :: outer)) (ff : s.heap.FunFrames base (env :: outer)) (ef : env.frame = some L) (re : s.heap.get? e = some { cls := C, dict := none, data := .fields vs, slots := sl }) (v1 : 1 < vs.size)
    (k : ∀ h', Noted (frs (env :: outer)) e none C s.heap h' → Q () { s with heap := h' }) :
    wpAny M A (do let a ← frameOf env; let pl ← entryPlaceOf L had; let b ← EntryCells.newEntry head a .none (rawInt L) .none pl; setField (.ref e) 1 b) (fun _ s' => wpAny M A (setFlight (.ref e) none) Q E s') E s := by
  have efs : e ∉ frs (env :: outer) := fun z => by
    obtain ⟨_, o, q, nf⟩ := ff.mem z
    rw [re] at q; cases q
    exact nf vs rfl
  refine wpAny_bind (wpAny_frameOf_fun fr ff ef fun g so => ?_)
  refine wpAny_bind (wpAny_entryPlaceOf fun pl ip => ?_)
  unfold EntryCells.newEntry newFields
  refine wpAny_bind (wpAny_newObj_type ?_ (ip.sizeOk5 _ _ _ _ _))
  generalize hN : ({ cls := .type "traceback", dict := none, data := .fields ([head, .ref L, .none, rawInt L, .none] ++ (if pl.isEmpty then List.replicate 6 Value.none else pl)).toArray } : Obj) = N
  have Nd : N.data = .fields ([head, .ref L, .none, rawInt L, .none] ++ (if pl.isEmpty then List.replicate 6 Value.none else pl)).toArray := by rw [← hN]
  have q1 : g.get? e = some { cls := C, dict := none, data := .fields vs, slots := sl } := (so.2.1 e efs).trans re
  have q2 := Heap.get?_push_of_some (h := g) N q1
  have ne : g.objs.size ≠ e := Nat.ne_of_gt (Heap.lt_size q1)
  refine wpAny_setField q2 rfl v1 ?_
  have q3 := Heap.get?_update_self (Obj.mapFields (·.setIfInBounds 1 (Value.ref g.objs.size))) q2 rfl
  have nf : N.isFreed = false := Obj.isFreed_of_fields Nd
  have t3 : ((g.push N).update e (Obj.mapFields (·.setIfInBounds 1 (Value.ref g.objs.size)))).get? g.objs.size = some N :=
    (Heap.get?_update_other (g.push N) _ (Ne.symm ne)).trans (Heap.get?_push_size g nf)
  unfold setFlight
  refine wpAny_bind (wpAny_field q3 (vs := vs.setIfInBounds 1 (.ref g.objs.size)) rfl (x := .ref g.objs.size) (by simp [v1]) ?_)
  rw [if_pos (by simp)]
  refine wpAny_setField t3 Nd (by simp only [List.size_toArray, List.length_append, List.length_cons, List.length_nil] <;> omega) (k _ ?_)
  have t4 := Heap.get?_update_self (Obj.mapFields (·.setIfInBounds 3 ((none : Option Addr).elim Value.none fun f => rawInt f))) t3 (Obj.isFreed_of_fields (Obj.data_mapFields Nd _))
  have oth : ∀ b o, b ≠ e → g.get? b = some o → (((g.push N).update e (Obj.mapFields (·.setIfInBounds 1 (Value.ref g.objs.size)))).update g.objs.size (Obj.mapFields (·.setIfInBounds 3 ((none : Option Addr).elim Value.none fun f => rawInt f)))).get? b = some o := fun b o hb q => by
    rw [Heap.get?_update_other _ _ (Nat.ne_of_gt (Heap.lt_size q)), Heap.get?_update_other _ _ (Ne.symm hb)]
    exact Heap.get?_push_of_some _ q
  refine ⟨fun b o q hf he _ => oth b o he ((so.2.1 b hf).trans q), fun b o q hf he _ => ?_, g.objs.size, .inl ?_, vs.setIfInBounds 1 (.ref g.objs.size), sl, ?_, by simp [v1], ne, _, _, t4, Obj.data_mapFields Nd _, ?_⟩
  · obtain ⟨sl', q'⟩ := so.2.2 b o q
    exact ⟨sl', oth b _ he q'⟩
  · rw [so.1]
    exact Heap.get?_none_of_le (Nat.le_refl _)
  · rw [Heap.get?_update_other _ _ ne]
    exact q3
  · first
      | (simp; done)
      | (rcases ip with rfl | ⟨_, _, _, _, _, _, _, rfl⟩ <;> simp)
theorem qBg {base : Heap} {env : Env} {outer : List Env} {L e : Addr} {C : Value} {hd : Option Addr} {Q : Unit → Shared → Prop}
    (fr : A.frames = some (env :: outer)) (ff : s.heap.FunFrames base (env :: outer)) (ef : env.frame = some L) (re : kG s.heap e C hd)
    (k : ∀ h', Noted (frs (env :: outer)) e hd C s.heap h' → Q () { s with heap := h' }) : wpAny M A (noteFrame (.ref e) env) (fun _ s' => wpAny M A (setFlight (.ref e) none) Q E s') E s := by
  obtain ⟨vs, sl, q, r⟩ := re
  unfold noteFrame
  simp only [ef]
  cases hd with
  | none =>
    refine wpAny_bind (wpAny_field q rfl r ?_)
    rw [if_neg (by decide)]
    exact wA fr ff ef q (Array.getElem?_eq_some_iff.mp r).1 k
  | some T =>
    obtain ⟨r1, nT, oT, ts, qT, dT, r3⟩ := r
    refine wpAny_bind (wpAny_field q rfl r1 ?_)
    rw [if_pos (by simp)]
    refine wpAny_bind (wpAny_field qT dT r3 ?_)
    rw [if_neg (by simp [rawInt])]
    refine wpAny_bind (wpAny_setField qT dT (Array.getElem?_eq_some_iff.mp r3).1 ?_)
    have oth : ∀ b, b ≠ T → (s.heap.update T (Obj.mapFields (·.setIfInBounds 3 Value.none))).get? b = s.heap.get? b := fun b z => Heap.get?_update_other _ _ (Ne.symm z)
    have qT' := Heap.get?_update_self (Obj.mapFields (·.setIfInBounds 3 Value.none)) qT (Obj.isFreed_of_fields (Obj.data_mapFields dT _))
    have nf : ∀ b o, s.heap.get? b = some o → (∀ vs, o.data ≠ .fields vs) → b ≠ T := fun b o z n w => by
      rw [w, qT] at z; cases z
      exact n ts dT
    refine wA (s := { s with heap := s.heap.update T (Obj.mapFields (·.setIfInBounds 3 Value.none)) }) fr (ff.of_keeps fun b o z n => ⟨o, (oth b (nf b o z n)).trans z, rfl⟩) ef ((oth e (Ne.symm nT)).trans q) (Array.getElem?_eq_some_iff.mp r1).1 fun h' x => ?_
    exact k h' (x.before oth ⟨_, qT'⟩)
theorem vt {e T : Addr} {C : Value} {Q : Unit → Shared → Prop} (re : kG s.heap e C (some T))
    (k : ∀ h', (∀ fs, Noted fs e (some T) C s.heap h') → Q () { s with heap := h' }) : wpAny M A (setFlight (.ref e) none) Q E s := by
  obtain ⟨vs, sl, q, r1, nT, oT, ts, qT, dT, r3⟩ := re
  unfold setFlight
  refine wpAny_bind (wpAny_field q rfl r1 ?_)
  rw [if_pos (by simp)]
  have oth : ∀ b, b ≠ T → (s.heap.update T (Obj.mapFields (·.setIfInBounds 3 ((none : Option Addr).elim Value.none fun f => rawInt f)))).get? b = s.heap.get? b := fun b z => Heap.get?_update_other _ _ (Ne.symm z)
  refine wpAny_setField qT dT (Array.getElem?_eq_some_iff.mp r3).1 (k _ fun fs => ⟨fun b o q _ _ z => ?_, fun b o q _ _ z => ⟨o.slots, ?_⟩, T, .inr rfl, ?_⟩)
  · rw [oth b fun w => z (by rw [w])]; exact q
  · rw [oth b fun w => z (by rw [w])]; exact q
  · refine ⟨vs, sl, (Heap.get?_update_other _ _ nT).trans q, r1, nT, _, _, Heap.get?_update_self _ qT (Obj.isFreed_of_fields (Obj.data_mapFields dT _)), Obj.data_mapFields dT _, ?_⟩
    have h3 := (Array.getElem?_eq_some_iff.mp r3).1
    simp [h3]
end
end L3
set_option maxHeartbeats 4000000
namespace L3
open PySem PySem.Spec PyProof.Rows L2
theorem qFn {P : Program} {w : World} {H : Hp} {h : Heap} {a : Addr} {o : HO} (x : ObjOk P w H h a o) : ∃ ob, h.get? a = some ob := by
  cases o with
  | lst xs => obtain ⟨_, _, _, _, e⟩ := x; exact ⟨_, e⟩
  | tup xs => obtain ⟨_, _, _, ob, e, _⟩ := x; exact ⟨ob, e⟩
  | dK kvs => obtain ⟨_, _, _, _, o, _, _, e, _⟩ := x; exact ⟨_, e⟩
  | dT kvs => obtain ⟨_, _, _, _, o, _, _, e, _⟩ := x; exact ⟨_, e⟩
  | set S n => obtain ⟨o, _, _, _, e, _⟩ := x; exact ⟨_, e⟩
  | ins C dx fs => obtain ⟨_, _, _, e, _⟩ := x; exact ⟨_, e⟩
  | own y => exact x
  | xd fs => obtain ⟨_, ⟨_, _, _, e, _⟩, _⟩ := x; exact ⟨_, e⟩
  | rng lo hi => obtain ⟨_, _, _, e⟩ := x; exact ⟨_, e⟩
  | frz ob u => obtain ⟨e, _⟩ := x; exact ⟨_, e⟩
  | tbl ps => exact ⟨_, x⟩
  | met f y => exact ⟨_, x⟩
  | ext φ => exact x.2.1
def qB4 (h₀ : Heap) (H : Hp) (ps : List (Addr × Obj)) (e : Addr) : Prop := h₀.get? e = none ∧ H e = none ∧ ∀ p ∈ ps, p.1 ≠ e
def qEx (h₀ : Heap) (H : Hp) (ps : List (Addr × Obj)) (h : Heap) (e : Addr) (C : Value) : Prop :=
  qB4 h₀ H ps e ∧ ∃ hd, kG h e C hd ∧ ∀ T, hd = some T → qB4 h₀ H ps T
def CXR (P : Program) (w : World) : CXT := fun outer H s E e s' => ∃ ea C H', e = .ref ea ∧ s'.os = s.os ∧ AllBare s'.gens ∧ Un (frs outer) [] H H' s.heap s'.heap ∧ HOk P w H' s'.heap ∧ qEx s.heap H' [] s'.heap ea C ∧ E C none H'
def XE (X : Cx) (Ex : Value → Hp → Prop) : Value → Shared → Prop := fun e s' => ∃ ea C σ H', e = .ref ea ∧ Inv X [] σ H' s' ∧ qEx X.s₀.heap H' X.pn s'.heap ea C ∧ Ex C H'
section
variable {X : Cx} {σ : L2.St} {H : Hp} {s : Shared}
theorem zE {e : Addr} {hd : Option Addr} {C : Value} {h' : Heap} (I : Inv X [] σ H s) (hex : X.ex = []) (re : kG s.heap e C hd) (n1 : qB4 X.s₀.heap H X.pn e) (n3 : ∀ T, hd = some T → qB4 X.s₀.heap H X.pn T)
    (N : Noted (frs X.stack) e hd C s.heap h') : Inv X [] σ H { s with heap := h' } ∧ qEx X.s₀.heap H X.pn h' e C := by
  have B := I.base
  rw [hex] at B
  have ne : ∀ b o, X.s₀.heap.get? b = some o → b ≠ e ∧ some b ≠ hd ∧ b ≠ X.env.locals := fun b o q => by
    refine ⟨fun z => ?_, fun z => ?_, Nat.ne_of_lt (Nat.lt_of_lt_of_le (Heap.lt_size q) I.ok.above)⟩
    · rw [z, n1.1] at q; cases q
    · rw [(n3 b z.symm).1] at q; cases q
  have nin : ∀ b, b ∉ ([] : List Addr) := fun b z => nomatch z
  have nfl : ∀ b o, s.heap.get? b = some o → (∀ vs, o.data ≠ .fields vs) → b ≠ e ∧ some b ≠ hd := fun b o q nf => by
    obtain ⟨vs, sl, qe, r⟩ := re
    refine ⟨fun z => ?_, fun z => ?_⟩
    · rw [z, qe] at q; cases q
      exact nf vs rfl
    · subst z
      obtain ⟨_, _, oT, ts, qT, dT, _⟩ := r
      rw [qT] at q; cases q
      exact nf ts dT
  have up : ∀ b o, s.heap.get? b = some o → b ≠ e → some b ≠ hd → ∃ sl, h'.get? b = some { o with slots := sl } := fun b o q z1 z2 => by
    by_cases hs : b ∈ frs X.stack
    · exact N.slot b o q hs z1 z2
    · exact ⟨o.slots, N.keep b o q hs z1 z2⟩
  have un : Un X.fs [] X.H₀ H X.s₀.heap h' := by
    refine ⟨fun b o q n hb hx => ?_, fun b o q n hb hx => ?_, fun b o q n hx => B.free b o q n hx, fun b o q hx => ?_, B.tups, B.frzs, B.tbls⟩
    · obtain ⟨z1, z2, z3⟩ := ne b o q
      refine N.keep b o (B.keep b o q n hb hx) (fun z => ?_) z1 z2
      rcases List.mem_cons.mp (I.stkSub b z) with w | w
      · exact z3 w
      · exact hb w
    · obtain ⟨z1, z2, z3⟩ := ne b o q
      obtain ⟨sl, q1⟩ := B.slot b o q n hb hx
      obtain ⟨sl', q2⟩ := up b _ q1 z1 z2
      exact ⟨sl', q2⟩
    · obtain ⟨z1, z2, z3⟩ := ne b o q
      obtain ⟨o', q1⟩ := B.there b o q hx
      obtain ⟨sl', q2⟩ := up b _ q1 z1 z2
      exact ⟨_, q2⟩
  have hok : HOk X.prog X.w H h' := fun a u q => by
    have key : ∀ c, H c = none → ¬ (c = a ∨ H c = some (.own a)) := fun c z w => by
      rcases w with w | w
      · rw [w, q] at z; cases z
      · rw [z] at w; cases w
    exact (I.hok a u q).stay (fun c v hc z => N.keep c v z (fun w => key c (I.stkFree c w) hc) (fun w => key c (by rw [w]; exact n1.2.1) hc) fun w => key c (n3 c w.symm).2.1 hc) (fun _ z => z) fun _ _ z => z
  have cellK : ∀ c v, s.heap.IsCell c v → h'.IsCell c v := fun c v ⟨o, q, d⟩ => by
    obtain ⟨z1, z2⟩ := nfl c o q fun vs w => by rw [d] at w; cases w
    obtain ⟨sl, q'⟩ := up c o q z1 z2
    exact ⟨_, q', d⟩
  have I' : Inv X [] σ H { s with heap := h' } := by
    refine ⟨I.ok, I.os, I.bare, by rw [hex]; exact un, ?_, fun y c e => ?_, I.free, I.freeC, fun p hp => ?_, hok, I.len⟩
    · obtain ⟨m, ⟨o, es, ep, ho, hd', r⟩, hl⟩ := I.loc
      obtain ⟨z1, z2⟩ := nfl _ o ho fun vs w => by rw [hd'] at w; cases w
      obtain ⟨sl, q'⟩ := up _ o ho z1 z2
      refine ⟨m, ⟨_, es, ep, q', hd', r⟩, fun i x v e1 e2 e3 => ?_⟩
      obtain ⟨u, r, l⟩ := hl i x v e1 e2 e3
      refine ⟨u, r, ?_⟩
      rcases l with l | ⟨k, c, ec, z⟩
      · exact .inl l
      · exact .inr ⟨k, c, ec, cellK c _ z⟩
    · obtain ⟨v, z⟩ := I.cell y c e
      exact ⟨v, cellK c v z⟩
    · obtain ⟨q, n, nl, nf, d⟩ := I.pin p hp
      have hp' : p ∈ X.pn := by simpa using hp
      refine ⟨N.keep p.1 p.2 q (fun z => ?_) (n1.2.2 p hp') fun z => (n3 p.1 z.symm).2.2 p hp' rfl, n, nl, nf, d⟩
      rcases List.mem_cons.mp (I.stkSub p.1 z) with w | w
      · exact nl w
      · exact nf w
  refine ⟨I', n1, ?_⟩
  obtain ⟨T, nT, r⟩ := N.ent
  refine ⟨some T, r, fun T' e' => ?_⟩
  cases e'
  rcases nT with nT | nT
  rotate_left
  · exact n3 T nT
  refine ⟨?_, ?_, fun p hp z => ?_⟩
  · cases q : X.s₀.heap.get? T with
    | none => rfl
    | some o =>
      obtain ⟨o', z⟩ := B.there T o q (nin T)
      rw [nT] at z; cases z
  · cases q : H T with
    | none => rfl
    | some u =>
      obtain ⟨o', z⟩ := qFn (I.hok T u q)
      rw [nT] at z; cases z
  · have q := (I.pin p (List.mem_append_left _ hp)).1
    rw [z, nT] at q; cases q
end
theorem qEu {X : Cx} {E : Value → Shared → Prop} {st : List Stmt} {t : TS} (h : PSs (X.wish E) st t) (hE : ∀ e s', E e s' → X.xe e s') : PSs X st t := fun pins s σ H D I hw =>
  wpAny_mono (h pins s σ H D (I.wish E) hw) (fun _ _ q => q.unwish) hE
section
variable {P : Program} {w : World} {K : PySem.W.Frag} {mg : Str → Option Value} {base : Heap}
theorem okX {x qual : Str} {st : Stmt} {f : Addr} {fd : FuncData} {N ps : List Str} {k : Nat} {sp : Sp} (F : Fun K x qual st f fd) (S : qV N ps (qG st)) (len : ∀ vs H Q E, sp vs H Q E → vs.length = ps.length)
    (hbody : ∀ (cdv : Value) (A : Around) (outer : List Env) (s : Shared) (H : Hp) (vs : List V) (Q : VK) (E : XK), Room k (A.deeper (envOfC qual (qG st) s.heap.objs.size f cdv)) → sp vs H Q E →
      ∃ t, PSs ((qCo (CXR P w) P w K mg base N qual (qG st) f cdv A outer s H E).wish (XE (qCo (CXR P w) P w K mg base N qual (qG st) f cdv A outer s H E) fun C H' => E C none H')) (qR st) t ∧
        t { nx := fun _ H' => Q .non H', rt := Q } (vF N vs) H) : FnOk P w K mg base (CXR P w) (k + 1) f fd ps sp := by
  obtain ⟨oc, od, kV, doc, pm, an, cdv, ct, osl, rfl, lk, hcd⟩ := F.ex
  refine qFr lk hcd S len fun A outer s H vs Q E hr hsp => ?_
  obtain ⟨t, h, q⟩ := hbody cdv A outer s H vs Q E hr hsp
  refine ⟨t, qEu h ?_, q⟩
  rintro e s' ⟨ea, C, σ, H', rfl, I, ⟨n1, hd, r, n3⟩, z⟩
  show wpAny _ _ (leaving _ _) _ _ _
  unfold leaving
  refine wpAny_bind (qBg I.ok.frames I.stack rfl r fun h' N' => ?_)
  obtain ⟨I', x'⟩ := zE I rfl r n1 n3 N'
  exact ⟨ea, C, H', rfl, I.os, I.bare, I'.base, I'.hok, x', z⟩
end
def qHm : List Value := [.type "ValueError", .type "Exception", .type "BaseException", .type "object"]
def OwnX (K : PySem.W.Frag) (C : Addr) : Prop := PySem.W.excIn K C qHm "ValueError.__new__" = true
end L3
set_option maxHeartbeats 4000000
namespace L3
open PySem PySem.Spec PyProof.Rows L2
def pnX (X : Cx) (l : List (Addr × Obj)) : Cx := { X with pn := l }
def hdX (X : Cx) (ea : Addr) : Cx := { X with A := X.A.mark (some (.ref ea)), calm := false }
section
variable {X : Cx} {pins : List (Addr × Obj)} {σ : L2.St} {H : Hp} {s : Shared}
theorem qF5 (I : Inv X pins σ H s) : Inv (pnX X (X.pn ++ pins)) [] σ H s := by
  obtain ⟨a1, a2, a3, a4, a5, a6, a7, a8, a9, a10, a11, a12, a13, a14, a15, a16, a17, a18⟩ := I.ok
  exact ⟨⟨a1, a2, a3, a4, a5, a6, a7, a8, a9, a10, a11, a12, a13, a14, a15, a16, a17, a18⟩, I.os, I.bare, I.base, I.loc, I.cell, I.free, I.freeC, fun p hp => I.pin p (by have z : p ∈ (X.pn ++ pins) ++ [] := hp; simpa using z), I.hok, I.len⟩
theorem zt (I : Inv (pnX X (X.pn ++ pins)) [] σ H s) : Inv X pins σ H s := by
  obtain ⟨a1, a2, a3, a4, a5, a6, a7, a8, a9, a10, a11, a12, a13, a14, a15, a16, a17, a18⟩ := I.ok
  exact ⟨⟨a1, a2, a3, a4, a5, a6, a7, a8, a9, a10, a11, a12, a13, a14, a15, a16, a17, a18⟩, I.os, I.bare, I.base, I.loc, I.cell, I.free, I.freeC, fun p hp => I.pin p (by show p ∈ (X.pn ++ pins) ++ []; simpa using hp), I.hok, I.len⟩
theorem qCd {ea : Addr} (I : Inv X pins σ H s) : Inv (hdX X ea) pins σ H s := by
  obtain ⟨a1, a2, a3, a4, a5, a6, a7, a8, a9, a10, a11, a12, a13, a14, a15, a16, a17, a18⟩ := I.ok
  exact ⟨⟨a1, a2, a3, a4, a5, a6, a7, a8, fun h => absurd (show false = true from h) Bool.false_ne_true, a10, a11, a12, a13, a14, a15, a16, a17, a18⟩, I.os, I.bare, I.base, I.loc, I.cell, I.free, I.freeC, I.pin, I.hok, I.len⟩
theorem vq {ea : Addr} (I : Inv (hdX X ea) pins σ H s) (hd : X.calm = true → X.A.handled = none) : Inv X pins σ H s := by
  obtain ⟨a1, a2, a3, a4, a5, a6, a7, a8, a9, a10, a11, a12, a13, a14, a15, a16, a17, a18⟩ := I.ok
  exact ⟨⟨a1, a2, a3, a4, a5, a6, a7, a8, hd, a10, a11, a12, a13, a14, a15, a16, a17, a18⟩, I.os, I.bare, I.base, I.loc, I.cell, I.free, I.freeC, I.pin, I.hok, I.len⟩
def qC6 (e : Addr) (C : Value) : HO := .ext fun h => ∃ (vs : Array Value) (sl : Array (Option Value)), h.get? e = some { cls := C, dict := none, data := .fields vs, slots := sl }
theorem vf {a : Addr} {C : Value} {hd : Option Addr} (I : Inv X [] σ H s) (_ : X.ex = []) (n : qB4 X.s₀.heap H X.pn a) (r : kG s.heap a C hd) : Inv X [] σ (upd H a (qC6 a C)) s := by
  obtain ⟨vs, sl, q, _⟩ := r
  have B := I.base
  have ne : ∀ b o, X.s₀.heap.get? b = some o → b ≠ a := fun b o w z => by rw [z, n.1] at w; cases w
  refine ⟨I.ok, I.os, I.bare, ⟨B.keep, B.slot, fun b o w z hx => ?_, B.there, fun b xs w => ?_, fun b o u w => ?_, fun b ps w => ?_⟩, I.loc, I.cell, ?_, fun y c e => ?_, fun p hp => ?_, fun b u w => ?_, I.len⟩
  · rw [qW (ne b o w)]; exact B.free b o w z hx
  · have z := B.tups b xs w
    rw [qW (qL z n.2.1)]; exact z
  · have z := B.frzs b o u w
    rw [qW (qL z n.2.1)]; exact z
  · obtain ⟨more, z⟩ := B.tbls b ps w
    exact ⟨more, by rw [qW (qL z n.2.1)]; exact z⟩
  · obtain ⟨m, ⟨o, es, ep, ho, hd', _⟩, _⟩ := I.loc
    rw [qW (fun z => by rw [z, q] at ho; cases ho; cases hd')]
    exact I.free
  · obtain ⟨v, o, ho, hd'⟩ := I.cell y c e
    rw [qW (fun z => by rw [z, q] at ho; cases ho; cases hd')]
    exact I.freeC y c e
  · obtain ⟨w1, w2, w3⟩ := I.pin p hp
    have hp' : p ∈ X.pn := by simpa using hp
    rw [qW (n.2.2 p hp')]
    exact ⟨w1, w2, w3⟩
  · by_cases hb : b = a
    · subst hb
      rw [qC] at w
      cases w
      refine ⟨⟨vs, sl, q⟩, ⟨_, q⟩, fun h1 h2 z k => ?_⟩
      obtain ⟨vs', sl', z⟩ := z
      exact ⟨vs', sl', k _ z⟩
    · rw [qW hb] at w
      exact (I.hok b u w).stay (fun _ _ _ z => z) (fun c z => by rw [qW (qL z n.2.1)]; exact z) fun c xs z => by rw [qW (qL z n.2.1)]; exact z
theorem zF {M : Model} {A : Around} {E : Value → Shared → Prop} {i : Nat} {n : Str} {pos : Pos} {Q : Unit → Shared → Prop} (I : Inv X pins σ H s) (hN : X.N.Nodup) (hi : X.N[i]? = some n) (hl : X.env.scope.names.lookup n = some .local)
    (h : ∀ s', Inv X pins (σ.set i none) H s' → Q () s') : wpAny M A (do bindName X.env n .none; unbindBehindTheSuite X.env n pos) Q E s := by
  refine wpAny_bind (wpAny_bindName (xG (v := .non) I hN hi (.inl hl) rfl (fun s1 I1 => ?_) (.inr hl)))
  unfold unbindBehindTheSuite
  refine wpAny_onRaise ?_
  have hcls : (X.env.scope.kind == .class || (X.env.scope.kind == .module && X.env.locals != X.env.globals)) = false := by rw [I1.ok.kind]; rfl
  have hiσ : i < σ.length := by rw [I.len]; exact (List.getElem?_eq_some_iff.mp hi).1
  obtain ⟨m, hn, hlk⟩ := I1.loc
  obtain ⟨u, r, lk⟩ := hlk i n .non hi (by rw [List.getElem?_set_self hiσ]) (.inl hl)
  have hm : m n = some u := by
    rcases lk with ⟨_, z⟩ | ⟨z, _⟩
    · exact z
    · have hl' : X.env.kindOf n = some .local := hl
      rw [hl'] at z
      rcases z with z | z <;> cases z
  obtain ⟨oL, es, ep, hoL, hdL, _⟩ := id hn
  refine wpAny_unbindName_local hl hn hm hcls fun h' u' hn' hs => h _ ?_
  have B := I1.base
  have neL : ∀ b o, X.s₀.heap.get? b = some o → b ≠ X.env.locals := fun b o e => Nat.ne_of_lt (Nat.lt_of_lt_of_le (Heap.lt_size e) I1.ok.above)
  refine ⟨I1.ok, I1.os, I1.bare, ⟨fun b o e n hb hx => (hs.2 b (neL b o e)).trans (B.keep b o e n hb hx), fun b o e n hb hx => ?_, B.free, fun b o e hx => ?_, B.tups, B.frzs, B.tbls⟩, ⟨_, hn', fun j y v e1 e2 e3 => ?_⟩, fun y c e => ?_, I1.free, I1.freeC, fun p hp => ?_, fun b ob e => ?_, ?_⟩
  · obtain ⟨sl, z⟩ := B.slot b o e n hb hx
    exact ⟨sl, (hs.2 b (neL b o e)).trans z⟩
  · obtain ⟨o', z⟩ := B.there b o e hx
    exact ⟨o', (hs.2 b (neL b o e)).trans z⟩
  · have hj : j ≠ i := fun z => by
      subst z
      rw [List.getElem?_set_self hiσ] at e2
      cases e2
    rw [List.getElem?_set_ne (Ne.symm hj)] at e2
    obtain ⟨u2, r2, l2⟩ := hlk j y v e1 (by rw [List.getElem?_set_ne (Ne.symm hj)]; exact e2) e3
    refine ⟨u2, r2, ?_⟩
    rcases l2 with ⟨k, z⟩ | ⟨k, c, ec, z⟩
    · refine .inl ⟨k, ?_⟩
      have : y ≠ n := fun w => hj (vI hN e1 (w ▸ hi))
      simp [this, z]
    · exact .inr ⟨k, c, ec, z.sameBut hs (I1.cne y c ec)⟩
  · obtain ⟨w', z⟩ := I1.cell y c e
    exact ⟨w', z.sameBut hs (I1.cne y c e)⟩
  · obtain ⟨e, n, ne, nf, d⟩ := I1.pin p hp
    exact ⟨(hs.2 p.1 ne).trans e, n, ne, nf, d⟩
  · refine (I1.hok b ob e).stay (fun c w' hc q => (hs.2 c fun z => ?_).trans q) (fun _ q => q) fun _ _ q => q
    have fr := I1.free
    rcases hc with hc | hc
    · rw [← hc, z, fr] at e; cases e
    · rw [z, fr] at hc; cases hc
  · have := I1.len
    simpa using this
end
def qEa (D : qBh) (i : Option Nat) : qBh :=
  let f : (L2.St → Hp → Prop) → L2.St → Hp → Prop := fun q σ H => match i with | some i => q (σ.set i none) H | none => q σ H
  { nx := f D.nx, rt := D.rt, bk := f D.bk, ct := f D.ct }
def qGw (i : Option Nat) (ea : Addr) (σ : L2.St) : L2.St := match i with | some i => σ.set i (some (.ref ea)) | none => σ
def qHq (K : PySem.W.Frag) (Ex : Value → Hp → Prop) (C : Addr) (i : Option Nat) (tb ts : TS) : TS := fun D σ H => tb D σ H ∧ ∀ (ea : Addr) (B : Value) (σ' : L2.St) (H' : Hp), Ex B H' → H' ea = none → σ'.length = σ.length →
  PySem.W.exmOne K B (.ref C) = some true ∧ ts (qEa D i) (qGw i ea σ') (upd H' ea (qC6 ea B))
inductive qCn (X : Cx) : Option Str → Option Nat → Prop where
  | none : qCn X none none
  | some {n : Str} {i : Nat} (hi : X.N[i]? = some n) (hl : X.env.scope.names.lookup n = some .local) : qCn X (some n) (some i)
theorem qE3 {X : Cx} {body : List Stmt} {b₀ : Stmt} {suite : List Stmt} {x : Str} {C : Addr} {nm : Option Str} {i : Option Nat} {np hpos pos : Pos} {tb ts : TS} (Ex : Value → Hp → Prop)
    (hcl : qCn X nm i) (hN : X.N.Nodup) (hg : Gl X x) (hm : X.mg x = some (.ref C))
    (hb : ∀ l, PSs ((pnX X l).wish (XE (pnX X l) Ex)) body tb) (hs : ∀ l ea, PSs (hdX (pnX X l) ea).nox (b₀ :: suite) ts)
    (hstk : X.stack = X.env :: X.outer := by rfl) (hfr : X.env.frame = some X.env.locals := by rfl) (hex : X.ex = [] := by rfl) (hdb : (x == ("__debug__" : Str)) = false := by decide) :
    PS X (.Try body [.ExceptHandler (some (.Name x np)) nm (b₀ :: suite) hpos] [] [] pos) (qHq X.K Ex C i tb ts) := by
  rintro pins s σ H D I ⟨h1, h2⟩
  have I0 := qF5 I
  refine wpAny_Try_except (wpAny_mono (hb (X.pn ++ pins) [] s σ H D (I0.wish _) h1) (fun f s1 q => ?_) fun e s1 q => ?_)
  · have q := q.unwish
    cases f with
    | next =>
      obtain ⟨σ', H', J, z⟩ := q
      exact wpAny_execs_nil ⟨σ', H', zt J, z⟩
    | brk =>
      obtain ⟨σ', H', J, z⟩ := q
      exact ⟨σ', H', zt J, z⟩
    | cont =>
      obtain ⟨σ', H', J, z⟩ := q
      exact ⟨σ', H', zt J, z⟩
    | ret u =>
      obtain ⟨v, σ', H', J, r, z⟩ := q
      exact ⟨v, σ', H', zt J, r, z⟩
  · obtain ⟨ea, B, σ', H', rfl, I1, ⟨n1, hd, r, n3⟩, ex⟩ := q
    have hlen : σ'.length = σ.length := I1.len.trans I.len.symm
    obtain ⟨hx, ht⟩ := h2 ea B σ' H' ex n1.2.1 hlen
    have fr : X.A.frames = some (X.env :: X.outer) := by rw [← hstk]; exact I.ok.frames
    have ff : s1.heap.FunFrames X.base (X.env :: X.outer) := by
      have z := I1.stack
      rw [show (pnX X (X.pn ++ pins)).stack = X.env :: X.outer from hstk] at z
      exact z
    refine qBg fr ff hfr r fun h' N' => ?_
    have N' : Noted (frs X.stack) ea hd B s1.heap h' := by rw [hstk]; exact N'
    obtain ⟨I2, n1, hd2, r2, n3⟩ := zE I1 hex r n1 n3 N'
    refine wpAny_handleBy_cons (codeAny_handlers_test (wU (X := hdX (pnX X (X.pn ++ pins)) ea) (qCd I2) hg hm ?_ hdb)) (by intro z; cases z)
    have LT : PySem.W.Looks (model X.prog X.w) h' (typeOf (.ref ea)) B := by
      obtain ⟨vs, sl, qe, _⟩ := r2
      exact (PySem.W.Looks.ld qe).andThen .now
    refine (PySem.W.exm_one (M := model X.prog X.w) I2.kIn LT hx).here ?_
    show codeAny _ _ _ _ _
    obtain ⟨T, rfl, r3⟩ : ∃ T, hd2 = some T ∧ kG h' ea B (some T) := by
      obtain ⟨T, _, _⟩ := N'.ent
      cases hd2 with
      | some T => exact ⟨T, rfl, r2⟩
      | none =>
        obtain ⟨T, _, rT⟩ := N'.ent
        obtain ⟨vs, sl, q1, q2⟩ := r2
        obtain ⟨vs', sl', q1', q2', _⟩ := rT
        rw [q1] at q1'
        cases q1'
        rw [q2] at q2'
        cases q2'
    have run : ∀ (s4 : Shared) (σ4 : L2.St) (Q : Flow → Shared → Prop) (E : Value → Shared → Prop), Inv (hdX (pnX X (X.pn ++ pins)) ea) [] σ4 (upd H' ea (qC6 ea B)) s4 → ts (qEa D i) σ4 (upd H' ea (qC6 ea B)) →
        (∀ f s5, SP (hdX (pnX X (X.pn ++ pins)) ea) [] (qEa D i) f s5 → Q f s5) → wpAny (model X.prog X.w) (X.A.mark (some (.ref ea))) (execs (b₀ :: suite) X.env) Q E s4 := fun s4 σ4 Q E I4 z k =>
      wpAny_mono (hs (X.pn ++ pins) ea [] s4 σ4 _ _ (I4.wish _) z) (fun f s5 q => k f s5 q.unwish) fun _ _ z => z.elim
    have hdn : (pnX X (X.pn ++ pins)).calm = true → (pnX X (X.pn ++ pins)).A.handled = none := I2.ok.hd
    cases hcl with
    | none =>
      refine codeAny_handlers_suite (vt r3 fun h3 N3 => ?_)
      obtain ⟨I3, n1, hd3, r4, n3⟩ := zE I2 hex r3 n1 n3 (N3 _)
      refine run _ _ _ _ (qCd (vf I3 hex n1 r4)) ht fun f s5 q => ?_
      cases f with
      | next => obtain ⟨σ5, H5, J, z⟩ := q; exact ⟨σ5, H5, zt (vq J hdn), z⟩
      | brk => obtain ⟨σ5, H5, J, z⟩ := q; exact ⟨σ5, H5, zt (vq J hdn), z⟩
      | cont => obtain ⟨σ5, H5, J, z⟩ := q; exact ⟨σ5, H5, zt (vq J hdn), z⟩
      | ret u => obtain ⟨v, σ5, H5, J, rv, z⟩ := q; exact ⟨v, σ5, H5, zt (vq J hdn), rv, z⟩
    | some hi hl =>
      refine codeAny_handlers_suite_as (vt r3 fun h3 N3 => ?_)
      obtain ⟨I3, n1, hd3, r4, n3⟩ := zE I2 hex r3 n1 n3 (N3 _)
      refine xG (X := hdX (pnX X (X.pn ++ pins)) ea) (v := .ref ea) (qCd (vf I3 hex n1 r4)) hN hi (.inl hl) rfl (fun s4 I4 => ?_) (.inr hl)
      refine run _ _ _ _ I4 ht fun f s5 q => ?_
      cases f with
      | next => obtain ⟨σ5, H5, J, z⟩ := q; exact zF (X := pnX X (X.pn ++ pins)) (vq J hdn) hN hi hl fun s6 J6 => ⟨_, H5, zt J6, z⟩
      | brk => obtain ⟨σ5, H5, J, z⟩ := q; exact zF (X := pnX X (X.pn ++ pins)) (vq J hdn) hN hi hl fun s6 J6 => ⟨_, H5, zt J6, z⟩
      | cont => obtain ⟨σ5, H5, J, z⟩ := q; exact zF (X := pnX X (X.pn ++ pins)) (vq J hdn) hN hi hl fun s6 J6 => ⟨_, H5, zt J6, z⟩
      | ret u => obtain ⟨v, σ5, H5, J, rv, z⟩ := q; exact zF (X := pnX X (X.pn ++ pins)) (vq J hdn) hN hi hl fun s6 J6 => ⟨v, _, H5, zt J6, rv, z⟩
end L3
set_option maxHeartbeats 4000000
set_option maxRecDepth 100000
namespace L3
open PySem PySem.Spec PySem.Calls PyProof.Rows PySem.W
section
variable {prog : Program} {w : World} {A : Around} {E : Value → Shared → Prop} {K : Frag} {h : Heap} {g : Array GenState} {d : Drawn} {t : Nat} {os : OsState} {a D : Addr} {ox : Obj}
structure ExcK (K : Frag) (D : Addr) : Prop where
  ga : findIn K (.ref D) "__getattribute__" = some (some (.builtin "BaseException.__getattribute__"))
  gt : findIn K (.ref D) "__getattr__" = some none
  ca : findIn K (.ref D) "__class__" = some (some (.builtin "object.__class__"))
  sg : specialIn K (.builtin "object.__class__") "__get__" = some (some (.builtin "getset_descriptor.__get__"))
  tk : takesIn K (.builtin "object.__class__") = some true
  mo : mroIn K D (.type "object") = some true
  mb : mroIn K D (.type "BaseException") = some true
end
end L3
namespace L3
open PySem PySem.Spec PyProof.Rows L2
end L3
set_option maxHeartbeats 4000000
namespace L3
open PySem PySem.Spec PyProof.Rows L2
section
variable {X : Cx}
theorem qDc {bs : List Bool} {its : List Value} {P : Program} {w : World} {A : Around} (r : Vals (bs.map V.bl) its) : TruthOf P w A (fun i v => its.toArray[i]? = some v) (fun i => (bs[i]?).getD false) := by
  intro i v s Q E hv hq
  have hv' : its[i]? = some v := by simpa using hv
  have hl := r.length
  have hi : i < bs.length := by
    have := (List.getElem?_eq_some_iff.mp hv').1
    rw [List.length_map] at hl
    omega
  obtain ⟨u, e1, q1⟩ := r.get (i := i) (x := .bl bs[i]) (by rw [List.getElem?_map, List.getElem?_eq_getElem hi]; rfl)
  rw [hv'] at e1
  cases e1
  cases q1
  have e : (bs[i]?).getD false = bs[i] := by rw [List.getElem?_eq_getElem hi]; rfl
  have hq' : Q ((bs[i]?).getD false) s := hq
  rw [e] at hq'
  exact wpAny_truthy_bool hq'
theorem qBo (bs : List Bool) : (List.range bs.length).all (fun i => (bs[i]?).getD false) = bs.all id := by
  rw [Bool.eq_iff_iff, List.all_eq_true, List.all_eq_true]
  constructor
  · intro h x hx
    obtain ⟨i, hi, e⟩ := List.mem_iff_getElem.mp hx
    have := h i (by simpa using hi)
    rw [List.getElem?_eq_getElem hi, e] at this
    exact this
  · intro h i hi
    have hi : i < bs.length := by simpa using hi
    rw [List.getElem?_eq_getElem hi]
    exact h _ (List.getElem_mem hi)
theorem wE (hc : X.calm = true) : CallR X (.builtin "all") (fun xs H Q => ∃ (p : Addr) (bs : List Bool), xs = [.ref p] ∧ SqL X.K H p (bs.map V.bl) ∧ Q (.bl (bs.all id)) H) := by
  intro pins s σ H xs us Q I r h
  obtain ⟨p, bs, rfl, hq, q⟩ := h
  obtain ⟨u, rfl, rx⟩ := qCl r
  cases rx
  obtain ⟨its, rv, pl, hz⟩ := I.list hq
  have hp : p ≠ s.heap.objs.size := by
    obtain ⟨o, n, e, _⟩ := pl
    exact Nat.ne_of_lt (Heap.lt_size e)
  have hh : X.A.in1.handled = none := I.ok.hd hc
  have hl : its.toArray.size = bs.length := by rw [List.size_toArray, ← rv.length, List.length_map]
  refine call_all_walk (wpAny_pyIter_list pl.isList ?_)
  refine ⟨s.heap.objs.size, _, _, _, _, _, _, rfl, Walks.list hh _ p hp its.toArray, ⟨⟨_, Heap.get?_push_size _ rfl, rfl, rfl⟩, pl.isList.at fun o e => Heap.get?_push_of_some _ e⟩, qDc rv, fun h' tk hk => ?_⟩
  rw [hl, qBo]
  refine ⟨.bl _, H, I.kept fun b o e => hk b o (fun z => ?_) (Heap.get?_push_of_some _ e), rfl, q⟩
  have z' : b = s.heap.objs.size := by simpa using z
  exact absurd (Heap.lt_size e) (by rw [z']; exact Nat.lt_irrefl _)
theorem qFz : OpR X (compareOp .In) (fun x y H Q => ∃ (a b : Str), x = .str a ∧ y = .str b ∧ Q (.bl (!(Builtin.Str.occurrences b a 0 b.length 1).isEmpty)) H) := by
  intro pins s σ H x y v u Q I rx ry h
  obtain ⟨a, b, rfl, rfl, q⟩ := h
  obtain ⟨t, rfl⟩ := rx
  obtain ⟨t', rfl⟩ := ry
  exact P.in_str ⟨.bl _, H, I, rfl, q⟩
def Its (z : Str) : It := ⟨fun i _ => i < z.cps.size, fun i H x H' => H' = H ∧ ∃ c, z.cps[i]? = some c ∧ x = .str ⟨#[c]⟩, fun i _ => z.cps.size ≤ i⟩
theorem qCm {P : Program} {w : World} {K : PySem.W.Frag} {tg : Expr} (it : Addr) (z : Str) (t : Tok) (ty : String) (hty : ty = "str_ascii_iterator" ∨ ty = "str_iterator") :
    qF8 P w K tg (Its z) [it] it (fun i h => h.IsStrIter it ty z t i ∧ i ≤ z.cps.size) where
  mem := by simp
  obj := fun i h st b hb => by
    have e : b = it := by simpa using hb
    subst e
    obtain ⟨⟨o, e, c, d⟩, _⟩ := st
    exact ⟨o, e, fun v z => by rw [d] at z; cases z⟩
  keep := fun i h h' st k => ⟨let ⟨o, ho, r⟩ := st.1; ⟨o, k it (by simp) o ho, r⟩, st.2⟩
  item := by
    intro X hP hw hK hc i pins s σ H E I hf st hg
    subst hP hw hK
    have hi : i < z.cps.size := hg
    have hx : z.cps[i]? = some z.cps[i] := by simp [hi]
    obtain ⟨f0, f1, f2, f3, f4, f5⟩ := hf it (by simp)
    have fin : ∀ h', h'.IsStrIter it ty z t (i + 1) → Heap.SameBut it s.heap h' → ∃ u, some (Value.str ⟨#[z.cps[i]]⟩ s.toks) = some u ∧ wpAny (model X.prog X.w) X.A (letOwnedTupleGo tg (.ref it) u) (fun _ s2 => ∃ x H', Inv X pins σ H' s2 ∧ RelV x u ∧ (Its z).yld i H x H' ∧ (s2.heap.IsStrIter it ty z t (i + 1) ∧ i + 1 ≤ z.cps.size) ∧ ∀ b ∈ [it], H' b = none) E { s with heap := h', toks := s.toks + 1 } := fun h' st' sb => by
      have I1 : Inv X pins σ H { s with heap := h', toks := s.toks + 1 } := I.turned (t' := s.toks + 1) (fun b o hb e => (sb.2 b hb).trans e) f0 f1 f3 f4 f5
      obtain ⟨o, e, c, d⟩ := id st'
      refine ⟨_, rfl, qEy (s := { s with heap := h', toks := s.toks + 1 }) e c d (by rcases hty with rfl | rfl <;> decide) ⟨.str ⟨#[z.cps[i]]⟩, H, I1, ⟨_, rfl⟩, ⟨rfl, _, hx, rfl⟩, ⟨st', hi⟩, fun b hb => (hf b hb).1⟩⟩
    rcases hty with rfl | rfl
    · exact wpAny_pyNext_ascii_item st.1 hx fin
    · exact wpAny_pyNext_wide_item st.1 hx fin
  done := by
    intro X hP hw hK hc i pins s σ H E I hf st hg
    subst hP hw hK
    have hi : z.cps.size ≤ i := hg
    have hx : z.cps[i]? = none := by simp [hi]
    obtain ⟨f0, f1, f2, f3, f4, f5⟩ := hf it (by simp)
    rcases hty with rfl | rfl
    · exact wpAny_pyNext_ascii_end (I.ok.hd hc) st.1 hx fun h' eb => ⟨rfl, I.turned (t' := s.toks) (fun b o hb e => eb b o hb e) f0 f1 f3 f4 f5⟩
    · exact wpAny_pyNext_wide_end (I.ok.hd hc) st.1 hx fun h' eb => ⟨rfl, I.turned (t' := s.toks) (fun b o hb e => eb b o hb e) f0 f1 f3 f4 f5⟩
  self := fun _ _ _ _ _ st h => by
    rcases hty with rfl | rfl
    · exact wpAny_pyIter_striter_ascii st.1 h
    · exact wpAny_pyIter_striter_wide st.1 h
def qHl (tl : TE) : TI := fun σ H R => tl σ H fun x H1 => ∃ z, x = .str z ∧ R (Its z) H1
theorem qFl {tg l : Expr} {tl : TE} (hl : PE X l tl) : PI X tg l (qHl tl) := by
  intro pins s σ H R I h
  refine thn (hl pins s σ H _ I h) fun v s1 ⟨x, H1, I1, r1, q1⟩ => ?_
  obtain ⟨z, e, q⟩ := q1
  subst e
  obtain ⟨t, rfl⟩ := r1
  have key : ∀ ty : String, (ty = "str_ascii_iterator" ∨ ty = "str_iterator") → PIE X pins σ tg R (.ref s1.heap.objs.size) { s1 with heap := s1.heap.push { cls := .type ty, data := .fields #[.str z t, .int 0 0] } } := fun ty hty => by
    refine ⟨s1.heap.objs.size, [s1.heap.objs.size], _, _, H1, rfl, I1.kept (t' := s1.toks) fun b o e => Heap.get?_push_of_some _ e, qCm _ z t ty hty, ⟨⟨_, Heap.get?_push_size _ rfl, rfl, rfl⟩, Nat.zero_le _⟩, fun b hb => ?_, q⟩
    have e : b = s1.heap.objs.size := by simpa using hb
    subst e
    exact I1.fpOk (Nat.le_refl _) (I1.hok.fresh (Nat.le_refl _))
  cases ha : z.cps.all (· < 128)
  · exact wpAny_pyIter_wide ha (key _ (.inr rfl))
  · exact wpAny_pyIter_ascii ha (key _ (.inl rfl))
theorem qC8 {z : Str} {js : List Nat} {te : TE} {σ : L2.St} {H : Hp} {Q : VK} (Pv : Nat → List V → Hp → Prop) (h0 : Pv 0 [] H) (hl : ∀ i acc H, i ≤ z.cps.size → Pv i acc H → acc.length < sizeLine)
    (hs : ∀ i c acc H, i < z.cps.size → z.cps[i]? = some c → Pv i acc H → te (some (.str ⟨#[c]⟩) :: xD js σ) H fun v H' => Nxt z.cps.size i (Pv (i + 1) (acc ++ [v]) H')) (hd : ∀ acc H, Pv z.cps.size acc H → ∀ D, H D = none → Q (.ref D) (upd H D (.lst acc))) : vN js te σ Q (Its z) H := by
  refine ⟨fun i m acc H => m = z.cps.size - i ∧ i ≤ z.cps.size ∧ Pv i acc H, ⟨z.cps.size, by simp, Nat.zero_le _, h0⟩, ?_⟩
  rintro i m acc H2 ⟨rfl, hi, p⟩
  refine ⟨hl i acc H2 hi p, ?_⟩
  by_cases hlt : i < z.cps.size
  · refine .inr ⟨hlt, fun x H3 y => ?_⟩
    obtain ⟨e, c, hc, rfl⟩ := y
    subst e
    exact hs i c acc _ hlt hc p
  · have e : i = z.cps.size := by omega
    subst e
    exact .inl ⟨Nat.le_refl _, hd acc H2 p⟩
end
end L3
namespace L3
open PySem PySem.Spec PyProof.Rows L2
end L3
set_option maxHeartbeats 4000000
namespace L3
open PySem PySem.Spec PyProof.Rows L2
section
variable {X : Cx}
end
end L3
set_option maxHeartbeats 4000000
namespace L3
open PySem PySem.Spec PyProof.Rows L2
inductive D where
  | leaf (v : V)
  | tup (xs : List D)
  | lst (xs : List D)
mutual
def Rep (K : PySem.W.Frag) (H : Hp) : D → V → Prop
  | .leaf v, x => x = v ∧ j3 v = true
  | .tup ds, x => ∃ p xs, x = .ref p ∧ SqT K H p xs ∧ Reps K H ds xs
  | .lst ds, x => ∃ p xs, x = .ref p ∧ SqL K H p xs ∧ Reps K H ds xs
def Reps (K : PySem.W.Frag) (H : Hp) : List D → List V → Prop
  | [], [] => True
  | d :: ds, x :: xs => Rep K H d x ∧ Reps K H ds xs
  | _, _ => False
end
mutual
def eqD : D → D → Bool
  | .leaf v, .leaf w => eqV v w
  | .tup xs, .tup ys => xF xs ys
  | .lst xs, .lst ys => xF xs ys
  | _, _ => false
def xF : List D → List D → Bool
  | [], [] => true
  | x :: xs, y :: ys => eqD x y && xF xs ys
  | _, _ => false
end
mutual
def dep : D → Nat
  | .leaf _ => 0
  | .tup xs => zq xs + 1
  | .lst xs => zq xs + 1
def zq : List D → Nat
  | [] => 0
  | x :: xs => max (dep x) (zq xs)
end
theorem Reps.length {K : PySem.W.Frag} {H : Hp} : ∀ {ds : List D} {xs : List V}, Reps K H ds xs → ds.length = xs.length
  | [], [], _ => rfl
  | _ :: _, _ :: _, h => by
    unfold Reps at h
    rw [List.length_cons, List.length_cons, h.2.length]
  | [], _ :: _, h => by unfold Reps at h; exact h.elim
  | _ :: _, [], h => by unfold Reps at h; exact h.elim
theorem qDg {v : V} (h : j3 v = true) : eqV v v = true := by
  cases v <;> simp_all [j3, eqV]
theorem z0 : ∀ {xs ys : List D}, xF xs ys = true → xs.length = ys.length
  | [], [], _ => rfl
  | x :: xs, y :: ys, h => by
    unfold xF at h
    rw [Bool.and_eq_true] at h
    rw [List.length_cons, List.length_cons, z0 h.2]
  | [], _ :: _, h => by simp [xF] at h
  | _ :: _, [], h => by simp [xF] at h
def itE (xs ys : List D) (j : Nat) : Bool := match xs[j]?, ys[j]? with
  | some a, some b => eqD a b
  | _, _ => false
theorem wC : ∀ (xs ys : List D), ((List.range (min xs.length ys.length)).all (itE xs ys) && xs.length == ys.length) = xF xs ys
  | [], [] => by simp [xF]
  | [], y :: ys => by simp [xF]
  | x :: xs, [] => by simp [xF]
  | x :: xs, y :: ys => by
    have ih := wC xs ys
    have e : min (x :: xs).length (y :: ys).length = min xs.length ys.length + 1 := by simp only [List.length_cons]; omega
    rw [e, List.range_succ_eq_map, List.all_cons, List.all_map]
    have e2 : (itE (x :: xs) (y :: ys)) ∘ Nat.succ = itE xs ys := by
      funext j
      simp [itE]
    have e3 : itE (x :: xs) (y :: ys) 0 = eqD x y := by simp [itE]
    have e4 : ((x :: xs).length == (y :: ys).length) = (xs.length == ys.length) := by
      rw [Bool.eq_iff_iff]; simp
    rw [e2, e3, e4, Bool.and_assoc, ih]
    conv => rhs; unfold xF
theorem wc {xs ys : List D} (h : xs.length = ys.length) : (List.range xs.length).all (itE xs ys) = xF xs ys := by
  have := wC xs ys
  rw [← h, Nat.min_self] at this
  simpa using this
section
variable {X : Cx} {pins : List (Addr × Obj)} {σ : L2.St} {H : Hp} {s : Shared}
mutual
theorem kz (I : Inv X pins σ H s) : ∀ (d e : D) {x : V}, Rep X.K H d x → Rep X.K H e x → eqD d e = true
  | .leaf v, .leaf w, x, h1, h2 => by
    unfold Rep at h1 h2
    obtain ⟨rfl, f⟩ := h1
    obtain ⟨rfl, _⟩ := h2
    unfold eqD
    exact qDg f
  | .leaf v, .tup ds, x, h1, h2 => by
    unfold Rep at h1 h2
    obtain ⟨rfl, f⟩ := h1
    obtain ⟨p, xs, rfl, _⟩ := h2
    cases f
  | .leaf v, .lst ds, x, h1, h2 => by
    unfold Rep at h1 h2
    obtain ⟨rfl, f⟩ := h1
    obtain ⟨p, xs, rfl, _⟩ := h2
    cases f
  | .tup ds, .leaf w, x, h1, h2 => by
    unfold Rep at h1 h2
    obtain ⟨rfl, f⟩ := h2
    obtain ⟨p, xs, rfl, _⟩ := h1
    cases f
  | .lst ds, .leaf w, x, h1, h2 => by
    unfold Rep at h1 h2
    obtain ⟨rfl, f⟩ := h2
    obtain ⟨p, xs, rfl, _⟩ := h1
    cases f
  | .tup ds, .tup es, x, h1, h2 => by
    unfold Rep at h1 h2
    obtain ⟨p, xs, rfl, t1, r1⟩ := h1
    obtain ⟨q, ys, e, t2, r2⟩ := h2
    cases e
    rw [I.tuple_inj t1 t2] at r1
    unfold eqD
    exact kN I ds es r1 r2
  | .lst ds, .lst es, x, h1, h2 => by
    unfold Rep at h1 h2
    obtain ⟨p, xs, rfl, t1, r1⟩ := h1
    obtain ⟨q, ys, e, t2, r2⟩ := h2
    cases e
    rw [I.list_inj t1 t2] at r1
    unfold eqD
    exact kN I ds es r1 r2
  | .tup ds, .lst es, x, h1, h2 => by
    unfold Rep at h1 h2
    obtain ⟨p, xs, rfl, t1, r1⟩ := h1
    obtain ⟨q, ys, e, t2, r2⟩ := h2
    cases e
    obtain ⟨_, _, i1, _⟩ := I.tuple t1
    obtain ⟨_, _, i2, _⟩ := I.list t2
    exact (SeqAt.ne_of_list_tuple i2.isList i1 rfl).elim
  | .lst ds, .tup es, x, h1, h2 => by
    unfold Rep at h1 h2
    obtain ⟨p, xs, rfl, t1, r1⟩ := h1
    obtain ⟨q, ys, e, t2, r2⟩ := h2
    cases e
    obtain ⟨_, _, i1, _⟩ := I.list t1
    obtain ⟨_, _, i2, _⟩ := I.tuple t2
    exact (SeqAt.ne_of_list_tuple i1.isList i2 rfl).elim
theorem kN (I : Inv X pins σ H s) : ∀ (ds es : List D) {xs : List V}, Reps X.K H ds xs → Reps X.K H es xs → xF ds es = true
  | [], [], _, _, _ => by simp [xF]
  | d :: ds, e :: es, [], h1, _ => by unfold Reps at h1; exact h1.elim
  | d :: ds, e :: es, x :: xs, h1, h2 => by
    unfold Reps at h1 h2
    unfold xF
    rw [kz I d e h1.1 h2.1, kN I ds es h1.2 h2.2]
    rfl
  | [], e :: es, [], _, h2 => by unfold Reps at h2; exact h2.elim
  | [], e :: es, _ :: _, h1, _ => by unfold Reps at h1; exact h1.elim
  | d :: ds, [], [], h1, _ => by unfold Reps at h1; exact h1.elim
  | d :: ds, [], _ :: _, _, h2 => by unfold Reps at h2; exact h2.elim
end
theorem xk {A : Around} {x : V} {u : Value} {p : Addr} {its : Array Value} (f : j3 x = true) (r : RelV x u) (hu : A.units < cLine) (h : s.heap.IsTuple p its ∨ s.heap.IsList p its) : SeqAt.EqAt A s u (.ref p) false ∧ SeqAt.EqAt A s (.ref p) u false := by
  cases x with
  | non => cases r; rcases h with h | h <;> exact ⟨by first | exact SeqAt.EqAt.none_tuple h hu | exact SeqAt.EqAt.none_list h hu, by first | exact SeqAt.EqAt.tuple_none h hu | exact SeqAt.EqAt.list_none h hu⟩
  | bl b => cases r; rcases h with h | h <;> exact ⟨by first | exact SeqAt.EqAt.bool_tuple _ h hu | exact SeqAt.EqAt.bool_list _ h hu, by first | exact SeqAt.EqAt.tuple_bool _ h hu | exact SeqAt.EqAt.list_bool _ h hu⟩
  | int i => obtain ⟨t, rfl⟩ := r; rcases h with h | h <;> exact ⟨by first | exact SeqAt.EqAt.int_tuple _ _ h hu | exact SeqAt.EqAt.int_list _ _ h hu, by first | exact SeqAt.EqAt.tuple_int _ _ h hu | exact SeqAt.EqAt.list_int _ _ h hu⟩
  | str i => obtain ⟨t, rfl⟩ := r; rcases h with h | h <;> exact ⟨by first | exact SeqAt.EqAt.str_tuple _ _ h hu | exact SeqAt.EqAt.str_list _ _ h hu, by first | exact SeqAt.EqAt.tuple_str _ _ h hu | exact SeqAt.EqAt.list_str _ _ h hu⟩
  | _ => cases f
theorem Reps.get {K : PySem.W.Frag} {H : Hp} : ∀ {ds : List D} {xs : List V}, Reps K H ds xs → ∀ (j : Nat) (d : D), ds[j]? = some d → ∃ x, xs[j]? = some x ∧ Rep K H d x
  | [], [], _, j, d, e => by simp at e
  | a :: ds, x :: xs, h, 0, d, e => by
    unfold Reps at h
    have : a = d := by simpa using e
    subst this
    exact ⟨x, rfl, h.1⟩
  | a :: ds, x :: xs, h, j + 1, d, e => by
    unfold Reps at h
    exact h.2.get j d (by simpa using e)
  | [], _ :: _, h, _, _, _ => by unfold Reps at h; exact h.elim
  | _ :: _, [], h, _, _, _ => by unfold Reps at h; exact h.elim
theorem vO : ∀ {ds : List D} {j : Nat} {d : D}, ds[j]? = some d → dep d ≤ zq ds
  | a :: ds, 0, d, e => by
    have : a = d := by simpa using e
    subst this
    unfold zq
    exact Nat.le_max_left _ _
  | a :: ds, j + 1, d, e => by
    have := vO (ds := ds) (j := j) (d := d) (by simpa using e)
    unfold zq
    exact Nat.le_trans this (Nat.le_max_right _ _)
  | [], _, _, e => by simp at e
theorem qB6 {A : Around} {ds es : List D} {xs ys : List V} {us ws : List Value} (r1 : Reps X.K H ds xs) (r2 : Reps X.K H es ys) (v1 : Vals xs us) (v2 : Vals ys ws)
    (ih : ∀ d e x y u w, d ∈ ds → Rep X.K H d x → Rep X.K H e y → RelV x u → RelV y w → SeqAt.EqAt A s u w (eqD d e)) :
    ∀ j (h1 : j < us.toArray.size) (h2 : j < ws.toArray.size), SeqAt.EqAt A s us.toArray[j] ws.toArray[j] (itE ds es j) := by
  intro j h1 h2
  have l1 := v1.length
  have l2 := v2.length
  have m1 := r1.length
  have m2 := r2.length
  rw [List.size_toArray] at h1 h2
  have g1 : ds[j]? = some ds[j] := List.getElem?_eq_getElem (by omega)
  have g2 : es[j]? = some es[j] := List.getElem?_eq_getElem (by omega)
  obtain ⟨x, ex, rx⟩ := r1.get j _ g1
  obtain ⟨y, ey, ry⟩ := r2.get j _ g2
  obtain ⟨u, eu, qu⟩ := v1.get ex
  obtain ⟨w, ew, qw⟩ := v2.get ey
  have c1 : us.toArray[j] = u := by
    have := (List.getElem?_eq_some_iff.mp eu).2
    simpa using this
  have c2 : ws.toArray[j] = w := by
    have := (List.getElem?_eq_some_iff.mp ew).2
    simpa using this
  have e : itE ds es j = eqD ds[j] es[j] := by unfold itE; rw [g1, g2]
  rw [c1, c2, e]
  exact ih _ _ _ _ _ _ (List.getElem_mem _) rx ry qu qw
theorem qDv (I : Inv X pins σ H s) : ∀ (n : Nat) (A : Around) (d e : D) (x y : V) (u w : Value), dep d ≤ n → A.units + n < cLine → Rep X.K H d x → Rep X.K H e y → RelV x u → RelV y w → SeqAt.EqAt A s u w (eqD d e) := by
  intro n
  induction n with
  | zero =>
    intro A d e x y u w hd hu r1 r2 q1 q2
    cases d with
    | leaf v =>
      unfold Rep at r1
      obtain ⟨rfl, f1⟩ := r1
      cases e with
      | leaf v' =>
        unfold Rep at r2
        obtain ⟨rfl, f2⟩ := r2
        unfold eqD
        exact vj q1 q2 f1 f2
      | tup es =>
        unfold Rep at r2
        obtain ⟨p, ys, rfl, t, _⟩ := r2
        cases q2
        obtain ⟨_, _, i, _⟩ := I.tuple t
        unfold eqD
        exact (xk f1 q1 hu (.inl i)).1
      | lst es =>
        unfold Rep at r2
        obtain ⟨p, ys, rfl, t, _⟩ := r2
        cases q2
        obtain ⟨_, _, i, _⟩ := I.list t
        unfold eqD
        exact (xk f1 q1 hu (.inr i.isList)).1
    | tup ds => unfold dep at hd; omega
    | lst ds => unfold dep at hd; omega
  | succ n ih =>
    intro A d e x y u w hd hu r1 r2 q1 q2
    have hu0 : A.units < cLine := by omega
    have hu1 : A.in1.units + n < cLine := by show A.units + 1 + n < cLine; omega
    cases d with
    | leaf v =>
      unfold Rep at r1
      obtain ⟨rfl, f1⟩ := r1
      cases e with
      | leaf v' =>
        unfold Rep at r2
        obtain ⟨rfl, f2⟩ := r2
        unfold eqD
        exact vj q1 q2 f1 f2
      | tup es =>
        unfold Rep at r2
        obtain ⟨p, ys, rfl, t, _⟩ := r2
        cases q2
        obtain ⟨_, _, i, _⟩ := I.tuple t
        unfold eqD
        exact (xk f1 q1 hu0 (.inl i)).1
      | lst es =>
        unfold Rep at r2
        obtain ⟨p, ys, rfl, t, _⟩ := r2
        cases q2
        obtain ⟨_, _, i, _⟩ := I.list t
        unfold eqD
        exact (xk f1 q1 hu0 (.inr i.isList)).1
    | tup ds =>
      have r1' := r1
      unfold Rep at r1
      obtain ⟨p, xs, rfl, t1, s1⟩ := r1
      cases q1
      obtain ⟨us, v1, i1, _⟩ := I.tuple t1
      cases e with
      | leaf v' =>
        unfold Rep at r2
        obtain ⟨rfl, f2⟩ := r2
        unfold eqD
        exact (xk f2 q2 hu0 (.inl i1)).2
      | lst es =>
        unfold Rep at r2
        obtain ⟨q, ys, rfl, t2, _⟩ := r2
        cases q2
        obtain ⟨_, _, i2, _⟩ := I.list t2
        unfold eqD
        exact SeqAt.EqAt.tuple_list i1 i2.isList hu0
      | tup es =>
        have r2' := r2
        unfold Rep at r2
        obtain ⟨q, ys, rfl, t2, s2⟩ := r2
        cases q2
        by_cases pq : p = q
        · subst pq
          rw [kz I _ _ r1' r2']
          exact SeqAt.EqAt.same _
        obtain ⟨ws, v2, i2, _⟩ := I.tuple t2
        have hdd : zq ds ≤ n := by unfold dep at hd; omega
        have := SeqAt.EqAt.of_refs pq (SeqAt.RcAt.tuples i1 i2 hu0 (qB6 s1 s2 v1 v2 fun d e x y u w hm ra rb qa qb => by
          obtain ⟨j, hj, ej⟩ := List.mem_iff_getElem.mp hm
          have hde : dep d ≤ zq ds := vO (j := j) (by rw [List.getElem?_eq_getElem hj, ej])
          exact ih A.in1 d e x y u w (by omega) hu1 ra rb qa qb))
        rw [List.size_toArray, List.size_toArray, ← v1.length, ← v2.length, ← s1.length, ← s2.length, wC] at this
        unfold eqD
        exact this
    | lst ds =>
      have r1' := r1
      unfold Rep at r1
      obtain ⟨p, xs, rfl, t1, s1⟩ := r1
      cases q1
      obtain ⟨us, v1, i1, _⟩ := I.list t1
      cases e with
      | leaf v' =>
        unfold Rep at r2
        obtain ⟨rfl, f2⟩ := r2
        unfold eqD
        exact (xk f2 q2 hu0 (.inr i1.isList)).2
      | tup es =>
        unfold Rep at r2
        obtain ⟨q, ys, rfl, t2, _⟩ := r2
        cases q2
        obtain ⟨_, _, i2, _⟩ := I.tuple t2
        unfold eqD
        exact SeqAt.EqAt.list_tuple i1.isList i2 hu0
      | lst es =>
        have r2' := r2
        unfold Rep at r2
        obtain ⟨q, ys, rfl, t2, s2⟩ := r2
        cases q2
        by_cases pq : p = q
        · subst pq
          rw [kz I _ _ r1' r2']
          exact SeqAt.EqAt.same _
        obtain ⟨ws, v2, i2, _⟩ := I.list t2
        have hdd : zq ds ≤ n := by unfold dep at hd; omega
        unfold eqD
        by_cases hl : ds.length = es.length
        · have hsz : us.toArray.size = ws.toArray.size := by rw [List.size_toArray, List.size_toArray, ← v1.length, ← v2.length, ← s1.length, ← s2.length]; exact hl
          have := SeqAt.EqAt.of_refs pq (SeqAt.RcAt.lists i1.isList i2.isList hsz hu0 (qB6 s1 s2 v1 v2 fun d e x y u w hm ra rb qa qb => by
            obtain ⟨j, hj, ej⟩ := List.mem_iff_getElem.mp hm
            have hde : dep d ≤ zq ds := vO (j := j) (by rw [List.getElem?_eq_getElem hj, ej])
            exact ih A.in1 d e x y u w (by omega) hu1 ra rb qa qb))
          rw [List.size_toArray, ← v1.length, ← s1.length, wc hl] at this
          exact this
        · have hsz : (us.toArray.size != ws.toArray.size) = true := by
            rw [List.size_toArray, List.size_toArray, ← v1.length, ← v2.length, ← s1.length, ← s2.length]
            simpa using hl
          have e : xF ds es = false := by
            rw [Bool.eq_false_iff]
            intro z
            exact hl (z0 z)
          rw [e]
          exact SeqAt.EqAt.of_refs pq (SeqAt.RcAt.lists_lengths i1.isList i2.isList hsz hu0)
def kin : D → D → Bool
  | .tup _, .tup _ => true
  | .lst _, .lst _ => true
  | _, _ => false
def qC0 (K : PySem.W.Frag) (neg : Bool) : R2 := fun x y H Q => ∃ d e : D, Rep K H d x ∧ Rep K H e y ∧ kin d e = true ∧ dep d ≤ 60 ∧ Q (.bl (if neg then !eqD d e else eqD d e)) H
theorem xn {A : Around} (I : Inv X pins σ H s) (hu : A.units + 64 < cLine) {ds es : List D} {xs ys : List V} {us ws : List Value} (hd : zq ds ≤ 60) (s1 : Reps X.K H ds xs) (s2 : Reps X.K H es ys) (v1 : Vals xs us) (v2 : Vals ys ws) :
    ∀ j (h1 : j < us.toArray.size) (h2 : j < ws.toArray.size), SeqAt.EqAt A.in1 s us.toArray[j] ws.toArray[j] (itE ds es j) :=
  qB6 s1 s2 v1 v2 fun d e x y u w hm ra rb qa qb => by
    obtain ⟨j, hj, ej⟩ := List.mem_iff_getElem.mp hm
    have hde : dep d ≤ zq ds := vO (j := j) (by rw [List.getElem?_eq_getElem hj, ej])
    exact qDv I 60 A.in1 d e x y u w (by omega) (by show A.units + 1 + 60 < cLine; omega) ra rb qa qb
theorem v9 (hu : X.A.units + 64 < cLine) : OpR X (compareOp .Eq) (qC0 X.K false) := by
  intro pins s σ H x y v u Q I rx ry h
  obtain ⟨d, e, r1, r2, hk, hd, q⟩ := h
  have hu0 : X.A.units < cLine := by omega
  cases d with
  | leaf a => cases e <;> cases hk
  | tup ds =>
    cases e with
    | leaf b => cases hk
    | lst es => cases hk
    | tup es =>
      unfold Rep at r1 r2
      obtain ⟨p, xs, rfl, t1, s1⟩ := r1
      obtain ⟨p', ys, rfl, t2, s2⟩ := r2
      cases rx; cases ry
      obtain ⟨us, v1, i1, _⟩ := I.tuple t1
      obtain ⟨ws, v2, i2, _⟩ := I.tuple t2
      refine SeqAt.eq_tupleAt i1 i2 hu0 (xn I hu (by unfold dep at hd; omega) s1 s2 v1 v2) ?_
      rw [List.size_toArray, List.size_toArray, ← v1.length, ← v2.length, ← s1.length, ← s2.length, wC]
      refine ⟨.bl _, H, I, rfl, ?_⟩
      unfold eqD at q
      exact q
  | lst ds =>
    cases e with
    | leaf b => cases hk
    | tup es => cases hk
    | lst es =>
      unfold Rep at r1 r2
      obtain ⟨p, xs, rfl, t1, s1⟩ := r1
      obtain ⟨p', ys, rfl, t2, s2⟩ := r2
      cases rx; cases ry
      obtain ⟨us, v1, i1, _⟩ := I.list t1
      obtain ⟨ws, v2, i2, _⟩ := I.list t2
      unfold eqD at q
      by_cases hl : ds.length = es.length
      · have hsz : us.toArray.size = ws.toArray.size := by rw [List.size_toArray, List.size_toArray, ← v1.length, ← v2.length, ← s1.length, ← s2.length]; exact hl
        refine SeqAt.eq_listAt i1.isList i2.isList hsz hu0 (xn I hu (by unfold dep at hd; omega) s1 s2 v1 v2) ?_
        rw [List.size_toArray, ← v1.length, ← s1.length, wc hl]
        exact ⟨.bl _, H, I, rfl, q⟩
      · have hsz : (us.toArray.size != ws.toArray.size) = true := by
          rw [List.size_toArray, List.size_toArray, ← v1.length, ← v2.length, ← s1.length, ← s2.length]
          simpa using hl
        have e : xF ds es = false := by
          rw [Bool.eq_false_iff]
          intro z
          exact hl (z0 z)
        rw [e] at q
        exact SeqAt.eq_list_lengthsAt i1.isList i2.isList hsz hu0 ⟨.bl _, H, I, rfl, q⟩
theorem kR (hu : X.A.units + 64 < cLine) : OpR X (compareOp .NotEq) (qC0 X.K true) := by
  intro pins s σ H x y v u Q I rx ry h
  obtain ⟨d, e, r1, r2, hk, hd, q⟩ := h
  have hu0 : X.A.units < cLine := by omega
  cases d with
  | leaf a => cases e <;> cases hk
  | tup ds =>
    cases e with
    | leaf b => cases hk
    | lst es => cases hk
    | tup es =>
      unfold Rep at r1 r2
      obtain ⟨p, xs, rfl, t1, s1⟩ := r1
      obtain ⟨p', ys, rfl, t2, s2⟩ := r2
      cases rx; cases ry
      obtain ⟨us, v1, i1, _⟩ := I.tuple t1
      obtain ⟨ws, v2, i2, _⟩ := I.tuple t2
      refine SeqAt.RcNeAt.tuples i1 i2 hu0 (xn I hu (by unfold dep at hd; omega) s1 s2 v1 v2) _ _ _ _ ?_
      rw [List.size_toArray, List.size_toArray, ← v1.length, ← v2.length, ← s1.length, ← s2.length, wC]
      refine ⟨.bl _, H, I, rfl, ?_⟩
      unfold eqD at q
      exact q
  | lst ds =>
    cases e with
    | leaf b => cases hk
    | tup es => cases hk
    | lst es =>
      unfold Rep at r1 r2
      obtain ⟨p, xs, rfl, t1, s1⟩ := r1
      obtain ⟨p', ys, rfl, t2, s2⟩ := r2
      cases rx; cases ry
      obtain ⟨us, v1, i1, _⟩ := I.list t1
      obtain ⟨ws, v2, i2, _⟩ := I.list t2
      unfold eqD at q
      by_cases hl : ds.length = es.length
      · have hsz : us.toArray.size = ws.toArray.size := by rw [List.size_toArray, List.size_toArray, ← v1.length, ← v2.length, ← s1.length, ← s2.length]; exact hl
        refine SeqAt.RcNeAt.lists i1.isList i2.isList hsz hu0 (xn I hu (by unfold dep at hd; omega) s1 s2 v1 v2) _ _ _ _ ?_
        rw [List.size_toArray, ← v1.length, ← s1.length, wc hl]
        exact ⟨.bl _, H, I, rfl, q⟩
      · have hsz : (us.toArray.size != ws.toArray.size) = true := by
          rw [List.size_toArray, List.size_toArray, ← v1.length, ← v2.length, ← s1.length, ← s2.length]
          simpa using hl
        have e : xF ds es = false := by
          rw [Bool.eq_false_iff]
          intro z
          exact hl (z0 z)
        rw [e] at q
        exact SeqAt.RcNeAt.lists_lengths i1.isList i2.isList hsz hu0 _ _ _ _ ⟨.bl _, H, I, rfl, q⟩
end
mutual
theorem Rep.same {K : PySem.W.Frag} {H H' : Hp} (e : Same H H') : ∀ (d : D) {x : V}, Rep K H d x → Rep K H' d x
  | .leaf v, x, h => by unfold Rep at h ⊢; exact h
  | .tup ds, x, h => by
    unfold Rep at h ⊢
    obtain ⟨p, xs, h1, h2, h3⟩ := h
    exact ⟨p, xs, h1, L3.Same.tup e h2, Reps.same e ds h3⟩
  | .lst ds, x, h => by
    unfold Rep at h ⊢
    obtain ⟨p, xs, h1, h2, h3⟩ := h
    exact ⟨p, xs, h1, e.seq h2, Reps.same e ds h3⟩
theorem Reps.same {K : PySem.W.Frag} {H H' : Hp} (e : Same H H') : ∀ (ds : List D) {xs : List V}, Reps K H ds xs → Reps K H' ds xs
  | [], [], h => by unfold Reps; trivial
  | d :: ds, x :: xs, h => by
    unfold Reps at h ⊢
    exact ⟨Rep.same e d h.1, Reps.same e ds h.2⟩
  | [], _ :: _, h => by unfold Reps at h; exact h.elim
  | _ :: _, [], h => by unfold Reps at h; exact h.elim
end
end L3
set_option maxHeartbeats 4000000
namespace L3
open PySem PySem.Spec PyProof.Rows L2
def qAm (js : List Nat) (tc : TT) (te : TE) (σ : L2.St) (Q : VK) (J : It) (H1 : Hp) : Prop := ∃ W : Nat → Nat → List V → Hp → Prop, (∃ m, W 0 m [] H1) ∧ ∀ i m acc H2, W i m acc H2 →
  acc.length < sizeLine ∧ ((J.stop i H2 ∧ ∀ D, H2 D = none → Q (.ref D) (upd H2 D (.lst acc))) ∨
    (J.go i H2 ∧ ∀ x H3, J.yld i H2 x H3 → tc (some x :: xD js σ) H3 fun ok H4 => if ok = true then te (some x :: xD js σ) H4 fun v H5 => ∃ m', m' < m ∧ W (i + 1) m' (acc ++ [v]) H5 else ∃ m', m' < m ∧ W (i + 1) m' acc H4))
def qDq (js : List Nat) (wi : TI) (tc : TT) (te : TE) : TE := fun σ H Q => wi σ H (qAm js tc te σ Q)
theorem qAz {X : Cx} {elt iter cnd : Expr} {x : Str} {px : Pos} {scope : Scope} {cl : List (Str × Addr)} {pos : Pos} {wi : TI} {tc : TT} {te : TE} (ys : List Str) (js : List Nat)
    (hcm : X.calm = true) (hi : PI X (.Name x px) iter wi) (hc : ∀ C s H fp, PT (qc X scope cl C (x :: ys) s H fp).nox cnd tc) (he : ∀ C s H fp, PE (qc X scope cl C (x :: ys) s H fp).nox elt te)
    (hclos : closureFor scope X.env = pure cl := by rfl)
    (hcl : cl.map (fun p => X.env.cells.lookup p.1) = cl.map (fun p => some p.2) := by rfl)
    (hcell : (scope.names.all fun p => p.2 != .cell) = true := by rfl) (hkind : scope.kind = .function := by rfl)
    (hnames : (scope.names.all fun p => p.2 != .local || scope.names.lookup p.1 == some .local) = true := by rfl)
    (hx : scope.names.lookup x = some .local := by rfl)
    (hhas : ((relabel scope X.env).names.all fun p => (p.2 != .cell && p.2 != .free) || (cl.lookup p.1).isSome) = true := by rfl)
    (hnd : (x :: ys).Nodup := by decide)
    (hjs : js.map (fun j => X.N[j]?) = ys.map some := by rfl)
    (hys : (ys.all fun y => ((relabel scope X.env).names.lookup y == some .cell || (relabel scope X.env).names.lookup y == some .free) && (X.env.scope.names.lookup y == some .cell || X.env.scope.names.lookup y == some .free)) = true := by rfl)
    (hs : ∀ x, foldedSetIterable iter X.env x = pure x := by intro _; rfl)
    {pins : List (Addr × Obj)} {s : Shared} {σ : L2.St} {H : Hp} (R : V → Hp → Prop) (use : Option (Value → Sem Unit)) (Q : Value → Shared → Prop) (I : Inv X pins σ H s) (h : qDq js wi tc te σ H R)
    (fin : ∀ (v : V) (u : Value) (H' : Hp) (s' : Shared) (C : Addr), Inv X pins σ H' s' → RelV v u → R v H' → (∃ m, s'.heap.Ns C m) → H' C = none → C ≠ X.env.locals → X.s₀.heap.objs.size ≤ C → (∀ y c, X.env.cells.lookup y = some c → c ≠ C) → (∀ p ∈ X.pn ++ pins, p.1 ≠ C) →
      compPost (model X.prog X.w) X.A X.xe use Q u C (.ok .next) s') :
    wpAny (model X.prog X.w) X.A (comprehension (.ListComp elt [⟨.Name x px, iter, [cnd], 0⟩] scope pos) scope X.env (firstIterPos [⟨.Name x px, iter, [cnd], 0⟩] pos) (newList []) false (eval iter X.env) use) Q X.xe s := by
  have hcell' : ∀ y ∈ scope.names, y.2 ≠ .cell := fun y hy => by
    have := List.all_eq_true.mp hcell y hy
    simpa using this
  have hnm : ∀ y ∈ scope.names, y.2 = .local → scope.names.lookup y.1 = some .local := fun y hy e => by
    have := List.all_eq_true.mp hnames y hy
    rw [e] at this
    simpa using this
  have clX : ∀ y c, cl.lookup y = some c → X.env.cells.lookup y = some c := fun y c e => by
    have hm := PySem.mem_of_lookup e
    obtain ⟨k, hk, e2⟩ := List.mem_iff_getElem.mp hm
    have := congrArg (fun l => l[k]?) hcl
    simp only [List.getElem?_map, List.getElem?_eq_getElem hk, Option.map_some, e2] at this
    exact Option.some.inj this
  have has : ∀ y, ((relabel scope X.env).names.lookup y = some .cell ∨ (relabel scope X.env).names.lookup y = some .free) → ∃ c, cl.lookup y = some c := fun y hy => by
    have key : ∀ k : NameKind, (k = .cell ∨ k = .free) → (relabel scope X.env).names.lookup y = some k → ∃ c, cl.lookup y = some c := fun k hk e => by
      have := List.all_eq_true.mp hhas _ (PySem.mem_of_lookup e)
      rcases hk with rfl | rfl <;> exact Option.isSome_iff_exists.mp (by simpa using this)
    rcases hy with e | e
    · exact key _ (.inl rfl) e
    · exact key _ (.inr rfl) e
  refine wpAny_comprehension_free (use := use) rfl hs hclos hkind hnm (thn (hi pins s σ H _ I h) fun v s1 h1 => thn h1 fun itv s2 h2 => ?_)
  obtain ⟨it, fp, tn, J, H2, e, I2, T, st2, f2, W, ⟨m0, w0⟩, turn⟩ := h2
  subst e
  refine wpAny_newObj_type (wpAny_newFunctionEnv hcell' (by intro y hy; simp at hy) (fun h₁ hns hsb => ?_) hkind)
  dsimp only at hns hsb ⊢
  generalize hG : s2.heap.push { cls := .type "list", dict := none, data := .seq ([] : List Value).toArray } = G at hns hsb ⊢
  have szG : G.objs.size = s2.heap.objs.size + 1 := by rw [← hG, Heap.size_push]
  have inG : ∀ b o, s2.heap.get? b = some o → G.get? b = some o := fun b o e => hG ▸ Heap.get?_push_of_some _ e
  have ltC : ∀ b o, s2.heap.get? b = some o → b ≠ G.objs.size := fun b o e => by rw [szG]; exact Nat.ne_of_lt (Nat.lt_succ_of_lt (Heap.lt_size e))
  have ltD : ∀ b o, s2.heap.get? b = some o → b ≠ s2.heap.objs.size := fun b o e => Nat.ne_of_lt (Heap.lt_size e)
  have DC : s2.heap.objs.size ≠ G.objs.size := by rw [szG]; omega
  have old : ∀ b o, s2.heap.get? b = some o → h₁.get? b = some o := fun b o e => hsb.extBut b o (ltC b o e) (Heap.get?_push_of_some _ (inG b o e))
  have hacc : h₁.PlainList s2.heap.objs.size #[] := ⟨_, hsb.extBut _ _ DC (Heap.get?_push_of_some _ (hG ▸ Heap.get?_push_size _ rfl))⟩
  have fpO : ∀ b ∈ fp, ∃ o, s2.heap.get? b = some o := fun b hb => let ⟨o, e, _⟩ := T.obj 0 _ st2 b hb; ⟨o, e⟩
  have stkO : ∀ b ∈ frs X.stack, ∃ o, s2.heap.get? b = some o := fun b hb => by
    obtain ⟨_, o, ho, _⟩ := I2.stack.mem hb
    exact ⟨o, ho⟩
  have freshH : ∀ a, s2.heap.objs.size ≤ a → H2 a = none := fun a ha => I2.hok.fresh ha
  have stkFp : ∀ b ∈ fp, b ∉ frs X.stack := fun b hb z => by
    rcases List.mem_cons.mp (I2.stkSub b z) with q | q
    · exact (f2 b hb).2.1 q
    · exact (f2 b hb).2.2.1 q
  have okX : (qc X scope cl G.objs.size (x :: ys) s2 H2 fp).Ok := {
    mod := I2.ok.mod
    kind := hkind
    glob := I2.ok.glob
    blt := I2.ok.blt
    above := by show s2.heap.objs.size ≤ G.objs.size; rw [szG]; omega
    inj := fun y z c e1 e2 => I2.ok.inj y z c (clX y c e1) (clX z c e2)
    has := fun y hy => has y hy
    cab := fun y c e _ => absurd (show false = true from e) Bool.false_ne_true
    hd := I2.ok.hd
    frames := I2.ok.frames
    stk := .inl rfl
    exf := fun b hb => by
      obtain ⟨o, e⟩ := fpO b hb
      exact ⟨ltC b o e, fun y c e1 => (f2 b hb).2.2.2.2.1 y c (clX y c e1)⟩
    bs := I2.bs
    bsz := Nat.le_trans I2.ok.bsz I2.sz
    noex := fun b o e hb => by
      rcases (f2 b hb).2.2.2.1 with q | q
      · exact I2.ok.noex b o e q
      · exact Nat.lt_irrefl _ (Nat.lt_of_lt_of_le (Nat.lt_of_lt_of_le (Heap.lt_size e) I2.ok.bsz) q)
    exfs := stkFp
    funs := I2.stack
    frf := I2.stkFree }
  have lenY : js.length = ys.length := by have := congrArg List.length hjs; simpa using this
  have I0 : Inv (qc X scope cl G.objs.size (x :: ys) s2 H2 fp) [] (none :: xD js σ) H2 { s2 with heap := h₁, toks := s2.toks + ([] : List (Str × Value)).length } := by
    refine ⟨okX, rfl, I2.bare, Un.kept old, ⟨_, hns, fun k y v e1 e2 e3 => ?_⟩, fun y c e => ?_, freshH _ (by show s2.heap.objs.size ≤ G.objs.size; rw [szG]; omega), fun y c e => I2.freeC y c (clX y c e), fun p hp => absurd (show p ∈ ([] : List (Addr × Obj)) from hp) (by simp), I2.hok.kept old, ?_⟩
    · cases k with
      | zero => cases e2
      | succ k =>
        have e1' : ys[k]? = some y := e1
        have e2' : (xD js σ)[k]? = some (some v) := e2
        unfold xD at e2'
        rw [List.getElem?_map] at e2'
        cases ej : js[k]? with
        | none => rw [ej] at e2'; cases e2'
        | some j =>
          rw [ej] at e2'
          have e4 : (σ[j]?).join = some v := Option.some.inj e2'
          have e5 : σ[j]? = some (some v) := by
            cases q : σ[j]? with
            | none => rw [q] at e4; cases e4
            | some o => rw [q] at e4; exact congrArg some e4
          have e6 : X.N[j]? = some y := by
            have := congrArg (fun l => l[k]?) hjs
            simp only [List.getElem?_map, ej, e1', Option.map_some] at this
            exact Option.some.inj this
          have hy := List.all_eq_true.mp hys y (List.mem_of_getElem? e1')
          simp only [Bool.and_eq_true, Bool.or_eq_true, beq_iff_eq] at hy
          obtain ⟨ky, ko⟩ := hy
          obtain ⟨m, hn, hl⟩ := I2.loc
          obtain ⟨u, r, lk⟩ := hl j y v e6 e5 (.inr ko)
          refine ⟨u, r, .inr ⟨ky, ?_⟩⟩
          rcases lk with ⟨kl, _⟩ | ⟨_, c, ec, hc⟩
          · have kl' : X.env.scope.names.lookup y = some .local := kl
            rw [kl'] at ko
            rcases ko with z | z <;> cases z
          · obtain ⟨c', ec'⟩ := has y ky
            have := clX y c' ec'
            rw [ec] at this
            cases this
            obtain ⟨o, ho, hd⟩ := hc
            exact ⟨c, ec', o, old c o ho, hd⟩
    · obtain ⟨v, o, ho, hd⟩ := I2.cell y c (clX y c e)
      exact ⟨v, o, old c o ho, hd⟩
    · show (none :: xD js σ).length = (x :: ys).length
      simp [xD, lenY]
  have loop : ∀ s3 : Shared, s3 = { s2 with heap := h₁, toks := s2.toks + ([] : List (Str × Value)).length } →
      codeAny (model X.prog X.w) X.A (.compLoop (.ListComp elt [⟨.Name x px, iter, [cnd], 0⟩] scope pos) 0 (.ref it) (.ref s2.heap.objs.size) (compEnvC scope cl G.objs.size X.env))
        (compPost (model X.prog X.w) X.A X.xe use Q (.ref s2.heap.objs.size) G.objs.size) s3 := by
    rintro s3 rfl
    have stat : ∀ {H' : Hp} (o : Obj), (∀ b ∈ fp, H' b = none) → ∀ b ∈ fp, qB8 (qc X scope cl G.objs.size (x :: ys) s2 H2 fp) [(s2.heap.objs.size, o)] H' b := fun {H'} o hn b hb => by
      obtain ⟨ob, eb⟩ := fpO b hb
      refine ⟨hn b hb, ltC b ob eb, stkFp b hb, .inl hb, fun y c e1 => (f2 b hb).2.2.2.2.1 y c (clX y c e1), fun p hp => ?_⟩
      have hp' : p = (s2.heap.objs.size, o) := by
        have : p ∈ [(s2.heap.objs.size, o)] := hp
        simpa using this
      rw [hp']
      exact Ne.symm (ltD b ob eb)
    refine codeAny_compLoop_tests (fun n s' => ∃ i acc its H3, Inv (qc X scope cl G.objs.size (x :: ys) s2 H2 fp) [] (none :: xD js σ) H3 s' ∧ tn i s'.heap ∧ (∀ b ∈ fp, H3 b = none) ∧ s'.heap.PlainList s2.heap.objs.size its.toArray ∧ Vals acc its ∧ H3 s2.heap.objs.size = none ∧ W i n acc H3)
      ?_ m0 ⟨0, [], [], H2, I0, T.keep _ _ _ st2 fun b _ o e => old b o e, fun b hb => (f2 b hb).1, hacc, .nil, freshH _ (Nat.le_refl _), w0⟩
    rintro n s3 ⟨i, acc, its, H3, I3, st3, fr3, ⟨nn, pl3⟩, va3, hD3, w3⟩
    obtain ⟨hlen, cs⟩ := turn i n acc H3 w3
    have hal : acc.length = its.length := va3.length
    have nD : s2.heap.objs.size ∉ frs X.stack := fun z => by
      obtain ⟨o, e⟩ := stkO _ z
      exact ltD _ o e rfl
    have I3p : Inv (qc X scope cl G.objs.size (x :: ys) s2 H2 fp) [(s2.heap.objs.size, { cls := .type "list", data := .seq its.toArray nn })] (none :: xD js σ) H3 s3 := I3.pins_of fun p hp => by
      have e : p = (s2.heap.objs.size, { cls := .type "list", data := .seq its.toArray nn }) := by simpa using hp
      subst e
      exact ⟨pl3, hD3, DC, nD, fun v z => nomatch z⟩
    rcases cs with ⟨stop, q⟩ | ⟨go, step⟩
    · refine thn (T.done (qc X scope cl G.objs.size (x :: ys) s2 H2 fp) rfl rfl rfl hcm i _ s3 _ H3 _ I3p (stat _ fr3) st3 stop) fun r s4 hr => ?_
      obtain ⟨hr, I4⟩ := hr
      subst hr
      have pl4 := (I4.pin (s2.heap.objs.size, { cls := .type "list", data := .seq its.toArray nn }) (by simp)).1
      obtain ⟨m, hn, _⟩ := I4.loc
      have B := I4.base
      have un' : Un (frs X.stack) fp H2 (upd H3 s2.heap.objs.size (.lst acc)) s2.heap s4.heap := by
        refine ⟨fun b o e n hb hx => B.keep b o e n hb hx, fun b o e n hb hx => B.slot b o e n hb hx, fun b o e n hx => ?_, fun b o e hx => B.there b o e hx, fun b xs e => ?_, fun b o u e => ?_, fun b ps e => ?_⟩
        · rw [qW (ltD b o e)]
          exact B.free b o e n hx
        · have z := B.tups b xs e
          rw [qW (qL z hD3)]
          exact z
        · have z := B.frzs b o u e
          rw [qW (qL z hD3)]
          exact z
        · obtain ⟨more, z⟩ := B.tbls b ps e
          exact ⟨more, by rw [qW (qL z hD3)]; exact z⟩
      have freeC4 : H3 G.objs.size = none := I4.free
      have hok' : HOk X.prog X.w (upd H3 s2.heap.objs.size (.lst acc)) s4.heap := fun b u e => by
        by_cases hb : b = s2.heap.objs.size
        · subst hb
          rw [qC] at e
          cases e
          exact ⟨Nat.le_of_lt hlen, its, nn, va3, pl4⟩
        · rw [qW hb] at e
          exact (I4.hok b u e).stay (fun c v hc z => z) (fun c z => by rw [qW (qL z hD3)]; exact z) fun c xs z => by rw [qW (qL z hD3)]; exact z
      have hch : ∀ b ∈ fp, (b ∈ X.ex ∨ X.s₀.heap.objs.size ≤ b) ∧ b ≠ X.env.locals ∧ (∀ y c, X.env.cells.lookup y = some c → c ≠ b) ∧ ∀ p ∈ X.pn ++ pins, p.1 ≠ b := fun b hb => by
        obtain ⟨_, z1, _, z3, z4, z5⟩ := f2 b hb
        exact ⟨z3, z1, z4, z5⟩
      have I5 := I2.call' (s' := s4) (ch := fp) I4.os un' hok' I4.bare hch
      refine fin (.ref s2.heap.objs.size) _ _ s4 G.objs.size I5 rfl (q _ hD3) ⟨m, hn⟩ ?_ ?_ ?_ (fun y c e => ?_) fun p hp => ?_
      · rw [qW (Ne.symm DC)]; exact freeC4
      · rw [szG]; exact Nat.ne_of_gt (Nat.lt_succ_of_lt I2.lt)
      · rw [szG]; exact Nat.le_succ_of_le I2.sz
      · obtain ⟨v, o, ho, _⟩ := I2.cell y c e
        exact ltC c o ho
      · exact ltC p.1 p.2 (I2.pin p hp).1
    · refine thn (T.item (qc X scope cl G.objs.size (x :: ys) s2 H2 fp) rfl rfl rfl hcm i _ s3 _ H3 _ I3p (stat _ fr3) st3 go) fun r s4 hr => ?_
      obtain ⟨u, hr, h4⟩ := hr
      subst hr
      show wpAny (model X.prog X.w) X.A (letOwnedTupleGo (.Name x px) (.ref it) u >>= fun _ => assign (.Name x px) (compEnvC scope cl G.objs.size X.env) u) _ _ s4
      refine wpAny_bind (thn h4 fun _ s5 h5 => ?_)
      obtain ⟨v, H5, I5, r5, y5, st5, fr5⟩ := h5
      have I5' := I5.pinned (stat _ fr5) (T.obj _ _ st5)
      refine wpAny_assign_Name (xG (i := 0) I5' hnd rfl (.inl (lookup_relabel_local hx)) r5 (fun s6 I6 => ?_) (.inr (lookup_relabel_local hx)))
      have I6' : Inv (qc X scope cl G.objs.size (x :: ys) s2 H2 fp).nox _ _ H5 s6 := I6.wish _
      have back : ∀ (H7 : Hp) (s7 : Shared) (σ7 : L2.St) (h' : Heap) (acc' : List V) (its' : List Value) (m' : Nat), Inv (qc X scope cl G.objs.size (x :: ys) s2 H2 fp) ([(s2.heap.objs.size, { cls := .type "list", data := .seq its.toArray nn })] ++ kj fp s5.heap) (some v :: xD js σ) H7 s7 →
          Heap.SameBut s2.heap.objs.size s7.heap h' → h'.PlainList s2.heap.objs.size its'.toArray → Vals acc' its' → m' < n → W (i + 1) m' acc' H7 →
          ∃ m, m < n ∧ ∃ i acc its H3, Inv (qc X scope cl G.objs.size (x :: ys) s2 H2 fp) [] (none :: xD js σ) H3 { s7 with heap := h' } ∧ tn i h' ∧ (∀ b ∈ fp, H3 b = none) ∧ h'.PlainList s2.heap.objs.size its.toArray ∧ Vals acc its ∧ H3 s2.heap.objs.size = none ∧ W i m acc H3 := by
        intro H7 s7 _ h' acc' its' m' I7 hsb' hp' va' hm' w7
        have pinD := I7.pin (s2.heap.objs.size, { cls := .type "list", data := .seq its.toArray nn }) (by simp)
        have pf : ∀ b ∈ fp, ∀ o, s5.heap.get? b = some o → s7.heap.get? b = some o ∧ H7 b = none := fun b hb o e => by
          have z := I7.pin (b, o) (List.mem_append_right _ (List.mem_append_right _ (xP hb e)))
          exact ⟨z.1, z.2.1⟩
        have I8 : Inv (qc X scope cl G.objs.size (x :: ys) s2 H2 fp) [] (none :: xD js σ) H7 { s7 with heap := h' } := by
          have I7u : Inv (qc X scope cl G.objs.size (x :: ys) s2 H2 fp) [] (none :: xD js σ) H7 s7 := (I7.pins_of (pins' := []) fun p hp => absurd hp (by simp)).weak (by simp) fun k v e => by
            cases k with
            | zero => cases e
            | succ k => exact e
          refine I7u.turned (t' := s7.toks) (it := s2.heap.objs.size) (fun b o hb e => hsb'.extBut b o hb e) pinD.2.1 DC (.inr (Nat.le_refl _)) (fun y c e => ?_) fun p hp => absurd (show p ∈ ([] : List (Addr × Obj)) from hp) (by simp)
          obtain ⟨v, o, ho, _⟩ := I2.cell y c (clX y c e)
          exact ltD c o ho
        refine ⟨m', hm', i + 1, acc', its', H7, I8, ?_, fun b hb => ?_, hp', va', pinD.2.1, w7⟩
        · refine T.keep _ _ _ st5 fun b hb o e => hsb'.extBut b o ?_ (pf b hb o e).1
          obtain ⟨ob, eb⟩ := fpO b hb
          exact ltD b ob eb
        · obtain ⟨o, e, _⟩ := T.obj _ _ st5 b hb
          exact (pf b hb o e).2
      simp only [List.forIn_cons, List.forIn_nil, if_true]
      refine wpAny_bind (wpAny_bind (wpAny_mono (hc G.objs.size s2 H2 fp _ s6 _ H5 _ I6' (step v H5 y5)) (fun ok s6a h6 => ?_) fun _ _ z => z.elim))
      obtain ⟨H6, I6a, q6⟩ := h6
      refine wpAny_pure (wpAny_pure ?_)
      cases ok with
      | false =>
        rw [if_neg (by decide)] at q6 ⊢
        obtain ⟨m', hm', w7⟩ := q6
        have I7 := I6a.unwish
        have pinD := I7.pin (s2.heap.objs.size, { cls := .type "list", data := .seq its.toArray nn }) (by simp)
        exact back H6 s6a (none :: xD js σ) s6a.heap acc its m' I7 (Heap.SameBut.refl _ _) ⟨nn, pinD.1⟩ va3 hm' w7
      | true =>
        rw [if_pos rfl] at q6 ⊢
        refine wpAny_mono (he G.objs.size s2 H2 fp _ s6a _ H6 _ I6a q6) (fun y s7 h7 => ?_) fun _ _ z => z.elim
        obtain ⟨v7, H7, I7, r7, m', hm', w7⟩ := h7
        have I7 := I7.unwish
        have pinD := I7.pin (s2.heap.objs.size, { cls := .type "list", data := .seq its.toArray nn }) (by simp)
        refine wpAny_list_append_plain (items := its.toArray) ⟨nn, pinD.1⟩ (fun h' hp' hsb' => ?_) (by rw [List.size_toArray, ← hal]; exact Nat.le_of_lt hlen)
        have e8 : its.toArray.push y = (its ++ [y]).toArray := by simp
        rw [e8] at hp'
        exact back H7 s7 (none :: xD js σ) h' (acc ++ [v7]) (its ++ [y]) m' I7 hsb' hp' (va3.append (.cons r7 .nil)) hm' w7
  exact codeAny_compStart_list (loop _ rfl) (T.self _ 0 _ _ _ (T.keep _ _ _ st2 fun b _ o e => old b o e) (loop _ rfl))
theorem qDd {X : Cx} {elt iter cnd : Expr} {x : Str} {px : Pos} {scope : Scope} {cl : List (Str × Addr)} {pos : Pos} {wi : TI} {tc : TT} {te : TE} (ys : List Str) (js : List Nat)
    {i : Nat} {y : Str} {py spos : Pos} (hN : X.N.Nodup) (hi' : X.N[i]? = some y) (hy : X.env.kindOf y = some .local) (hcm : X.calm = true) (hi : PI X (.Name x px) iter wi) (hc : ∀ C s H fp, PT (qc X scope cl C (x :: ys) s H fp).nox cnd tc) (he : ∀ C s H fp, PE (qc X scope cl C (x :: ys) s H fp).nox elt te)
    (hclos : closureFor scope X.env = pure cl := by rfl)
    (hcl : cl.map (fun p => X.env.cells.lookup p.1) = cl.map (fun p => some p.2) := by rfl)
    (hcell : (scope.names.all fun p => p.2 != .cell) = true := by rfl) (hkind : scope.kind = .function := by rfl)
    (hnames : (scope.names.all fun p => p.2 != .local || scope.names.lookup p.1 == some .local) = true := by rfl)
    (hx : scope.names.lookup x = some .local := by rfl)
    (hhas : ((relabel scope X.env).names.all fun p => (p.2 != .cell && p.2 != .free) || (cl.lookup p.1).isSome) = true := by rfl)
    (hnd : (x :: ys).Nodup := by decide)
    (hjs : js.map (fun j => X.N[j]?) = ys.map some := by rfl)
    (hys : (ys.all fun y => ((relabel scope X.env).names.lookup y == some .cell || (relabel scope X.env).names.lookup y == some .free) && (X.env.scope.names.lookup y == some .cell || X.env.scope.names.lookup y == some .free)) = true := by rfl)
    (hs : ∀ x, foldedSetIterable iter X.env x = pure x := by intro _; rfl) (hsw : swapsWith (.ListComp elt [⟨.Name x px, iter, [cnd], 0⟩] scope pos) (some (.Name y py)) spos.line X.env = pure true := by rfl) : PS X (.Assign [.Name y py] (.ListComp elt [⟨.Name x px, iter, [cnd], 0⟩] scope pos) spos) (qGs (qDq js wi tc te) (qA0 i)) := by
  intro pins s σ H D I h
  rw [exec_Assign_Name_used _ _ _ _ hsw]
  refine wpAny_bind (wpAny_standAt (wpAny_bind ?_))
  have key := qAz ys js hcm hi hc he hclos hcl hcell hkind hnames hx hhas hnd hjs hys hs (pos := pos) (fun v H' => D.nx (σ.set i (some v)) H') (some (assign (.Name y py) X.env)) (fun _ s' => SP X pins D .next s') I h fun v u H' s' C I' r q hm h0 h1 h2 h3 h4 => ?_
  · exact wpAny_bind (thn key fun _ s' hq => wpAny_pure (wpAny_pure hq))
  · refine wpAny_assign_Name (wK I' hN hi' (.inl hy) r (fun s2 I2 ch => ?_) (.inr hy))
    obtain ⟨b, sb, hb⟩ := ch
    obtain ⟨m, hm⟩ := hm
    have nb : C ≠ b := by
      rcases hb with rfl | hb
      · exact h1
      · exact Ne.symm (h3 y b hb)
    exact ⟨m, hm.sameBut sb nb, fun h' hsb => ⟨_, H', vM I2 hsb h0 h1 h2 h3 h4, q⟩⟩
theorem qA4 {K : PySem.W.Frag} {a : Addr} {xs : List V} {js : List Nat} {tc : TT} {te : TE} {σ : L2.St} {H : Hp} {Q : VK} (Pv : Nat → List V → Hp → Prop) (h0 : Pv 0 [] H) (hl : ∀ i acc H, i ≤ xs.length → Pv i acc H → SqL K H a xs ∧ acc.length < sizeLine)
    (hs : ∀ i x acc H, i < xs.length → xs[i]? = some x → Pv i acc H → tc (some x :: xD js σ) H fun ok H' => if ok = true then te (some x :: xD js σ) H' fun v H'' => Nxt xs.length i (Pv (i + 1) (acc ++ [v]) H'') else Nxt xs.length i (Pv (i + 1) acc H')) (hd : ∀ acc H, Pv xs.length acc H → ∀ D, H D = none → Q (.ref D) (upd H D (.lst acc))) : qAm js tc te σ Q (Itl K a) H := by
  refine ⟨fun i m acc H => m = xs.length - i ∧ i ≤ xs.length ∧ Pv i acc H, ⟨xs.length, by simp, Nat.zero_le _, h0⟩, ?_⟩
  rintro i m acc H2 ⟨rfl, hi, p⟩
  obtain ⟨q, hz⟩ := hl i acc H2 hi p
  refine ⟨hz, ?_⟩
  by_cases hlt : i < xs.length
  · refine .inr ⟨⟨xs, xs[i], q, by simp [hlt]⟩, fun x H3 y => ?_⟩
    obtain ⟨e, y⟩ := y
    subst e
    exact hs i x acc _ hlt (y xs q) p
  · have e : i = xs.length := by omega
    subst e
    exact .inl ⟨⟨xs, q, Nat.le_refl _⟩, hd acc H2 p⟩
end L3
set_option maxHeartbeats 4000000
namespace L3
open PySem PySem.Spec PyProof.Rows L2
end L3
set_option maxHeartbeats 4000000
namespace L3
open PySem PySem.Spec PyProof.Rows L2
theorem qEg {X : Cx} {pins : List (Addr × Obj)} {σ : L2.St} {H : Hp} {s : Shared} {h' : Heap} {t' : Nat} {ch : List Addr} (I : Inv X pins σ H s) (hf : ∀ b ∈ ch, qB8 X pins H b)
    (k : ∀ b o, b ∉ ch → s.heap.get? b = some o → h'.get? b = some o) : Inv X pins σ H { s with heap := h', toks := t' } := by
  have nit : ∀ b u, H b = some u → b ∉ ch := fun b u e z => by rw [(hf b z).1] at e; cases e
  refine I.step (g' := s.gens) (d' := s.drawn) (ch := ch) (fun b hb => ?_) (fun b o _ _ hc e _ => k b o hc e) (fun b o _ _ hc e _ => ⟨o.slots, k b o hc e⟩) (fun _ _ _ _ n => n)
    (fun b o hc e => ⟨o, k b o hc e⟩) (fun _ _ e => e) (fun _ _ _ e => e) (fun b ps e => ⟨#[], by rw [e]; simp⟩) (fun m hm => ?_) (fun b u e => ?_) I.bare
  · obtain ⟨_, f1, _, f3, f4, f5⟩ := hf b hb
    exact ⟨f3, f1, f4, f5⟩
  · obtain ⟨o, es, ep, ho, r⟩ := hm
    exact ⟨o, es, ep, k _ o (fun z => (hf _ z).2.1 rfl) ho, r⟩
  · refine (I.hok b u e).stay (fun c v hc q => k c v ?_ q) (fun _ q => q) fun _ _ q => q
    rcases hc with z | z
    · rw [z]; exact nit b u e
    · exact nit c _ z
theorem qF1 {X : Cx} {pins : List (Addr × Obj)} {σ : L2.St} {H : Hp} {s : Shared} {h' : Heap} {t' : Nat} {ch : List Addr} {xs : List V} {us : Array Value} (I : Inv X pins σ H s) (hf : ∀ b ∈ ch, qB8 X pins H b) (hlt : ∀ b ∈ ch, b < s.heap.objs.size)
    (k : ∀ b o, b ∉ ch → s.heap.get? b = some o → h'.get? b = some o) (hT : h'.get? s.heap.objs.size = some { cls := .type "tuple", data := .seq us }) (r : Vals xs us.toList) (hz : xs.length ≤ sizeLine) :
    Inv X pins σ (upd H s.heap.objs.size (.tup xs)) { s with heap := h', toks := t' } ∧ ∀ b ∈ ch, upd H s.heap.objs.size (.tup xs) b = none := by
  have hn : ∀ b ∈ ch, upd H s.heap.objs.size (.tup xs) b = none := fun b hb => by
    rw [qW (Nat.ne_of_lt (hlt b hb))]; exact (hf b hb).1
  have I1 : Inv X pins σ (upd H s.heap.objs.size (.tup xs)) { s with heap := s.heap.push { cls := .type "tuple", data := .seq us }, toks := t' } :=
    I.laid (t' := t') (fun b o e => Heap.get?_push_of_some _ e) (Nat.le_refl _) ⟨hz, us.toList, r, ⟨_, Heap.get?_push_size _ rfl, rfl, _, rfl⟩⟩
  have I2 := qEg (h' := h') (t' := t') (ch := ch) I1 (fun b hb => ⟨hn b hb, (hf b hb).2⟩) (fun b o hb e => ?_)
  · exact ⟨I2, hn⟩
  rcases Heap.get?_push_cases e with ⟨e1, e2⟩ | e1
  · rw [e1, e2]; exact hT
  · exact k b o hb e1
def Ite (K : PySem.W.Frag) (a : Addr) : It :=
  ⟨fun i H => ∃ xs x, SqL K H a xs ∧ xs[i]? = some x, fun i H x H' => ∃ p v, H p = none ∧ x = .ref p ∧ (∀ xs, SqL K H a xs → xs[i]? = some v) ∧ H' = upd H p (.tup [.int i, v]), fun i H => ∃ xs, SqL K H a xs ∧ xs.length ≤ i⟩
theorem qBv {P : Program} {w : World} {K : PySem.W.Frag} {elts : List Expr} {k1 : Nat} {pos : Pos} (a e it : Addr) (hne : e ≠ it) :
    qF8 P w K (.Tuple elts k1 pos) (Ite K a) [e, it] e (fun i h => (∃ old, IsEnum h e it (i : Nat) old) ∧ h.IsListIter it a i) where
  mem := by simp
  obj := fun i h st b hb => by
    obtain ⟨⟨old, he⟩, o, ho, c, d⟩ := st
    rcases List.mem_cons.mp hb with rfl | hb
    · exact ⟨_, he, fun v z => by cases z⟩
    · have e : b = it := by simpa using hb
      subst e
      exact ⟨o, ho, fun v z => by rw [d] at z; cases z⟩
  keep := fun i h h' st k => by
    obtain ⟨⟨old, he⟩, hi⟩ := st
    exact ⟨⟨old, k e (by simp) _ he⟩, hi.at fun o q => k it (by simp) o q⟩
  item := by
    intro X hP hw hK hc i pins s σ H E I hf st hg
    subst hP hw hK
    obtain ⟨⟨old, he⟩, hit⟩ := st
    obtain ⟨xs, x, hq, hx⟩ := hg
    obtain ⟨its, rv, p, hz⟩ := I.list hq
    obtain ⟨u, hu, ru⟩ := rv.get hx
    refine wpAny_pyNext_enum_item he hit p.isList (x := u) (by simpa using hu) hne fun h' heo hit' hT hsz hk => ?_
    refine ⟨_, rfl, wpAny_letOwnedTupleGo_enum heo fun h'' he'' hs'' => ?_⟩
    have hel : e < s.heap.objs.size := Heap.lt_size he
    have hil : it < s.heap.objs.size := by obtain ⟨_, q, _⟩ := hit; exact Heap.lt_size q
    have T := qF1 (h' := h'') (t' := s.toks + 1) (ch := [e, it]) (xs := [.int i, x]) (us := #[.int i s.toks, u]) I hf (fun b hb => by
        rcases List.mem_cons.mp hb with rfl | hb
        · exact hel
        · have z : b = it := by simpa using hb
          subst z; exact hil)
      (fun b o hb q => (hs''.2 b (fun z => hb (by simp [z]))).trans (hk b o (fun z => hb (by simp [z])) (fun z => hb (by simp [z])) q))
      ((hs''.2 _ (Nat.ne_of_gt hel)).trans hT) (.cons ⟨_, rfl⟩ (.cons ru .nil)) (by show 2 ≤ sizeLine; decide)
    refine ⟨.ref s.heap.objs.size, _, T.1, rfl, ⟨_, x, I.hok.fresh (Nat.le_refl _), rfl, fun ys hy => by rw [I.list_inj hy hq]; exact hx, rfl⟩, ⟨⟨u, by simpa using he''⟩, hit'.at fun o q => (hs''.2 it hne.symm).trans q⟩, T.2⟩
  done := by
    intro X hP hw hK hc i pins s σ H E I hf st hg
    subst hP hw hK
    obtain ⟨⟨old, he⟩, hit⟩ := st
    obtain ⟨xs, hq, hx⟩ := hg
    obtain ⟨its, rv, p, hz⟩ := I.list hq
    obtain ⟨f0, f1, f2, f3, f4, f5⟩ := hf it (by simp)
    have hl := rv.length
    exact wpAny_pyNext_enum_end (I.ok.hd hc) he hit p.isList (by simp; omega) fun h' eb => ⟨rfl, I.turned (t' := s.toks) (fun b o hb e => eb b o hb e) f0 f1 f3 f4 f5⟩
  self := fun _ _ _ _ _ st h => by
    obtain ⟨⟨old, he⟩, _⟩ := st
    exact wpAny_pyIter_enum he h
def qGk (K : PySem.W.Frag) (t : TA) : TI := fun σ H R => t σ H fun vs H1 => ∃ a, vs = [.ref a] ∧ (∃ xs, SqL K H1 a xs) ∧ R (Ite K a) H1
theorem qBm {X : Cx} {l : Expr} {tl : TA} {elts : List Expr} {k1 : Nat} {tpos p pos : Pos} (hg : Gl X "enumerate") (hm : X.mg "enumerate" = none) (hl : PA X [l] tl) (hs : starEach [l] X.env = [(false, eval l X.env)] := by rfl) :
    PI X (.Tuple elts k1 tpos) (.Call (.Name "enumerate" p) [l] [] pos) (qGk X.K tl) := by
  intro pins s σ H R I h
  refine Call_ (wO I hg hm boot_enumerate (PyProof.Rows.callWith_type1 (thn (hl pos pins s σ H _ I h) fun us s1 ⟨vs, H1, I1, r1, q1⟩ => ?_) hs rfl))
  obtain ⟨a, e, ⟨xs, hq⟩, q⟩ := q1
  subst e
  cases r1 with
  | cons r rr =>
    cases rr
    cases r
    obtain ⟨its, rv, pl, hz⟩ := I1.list hq
    refine call_enumerate_list pl.isList fun h' he hit hsz hk => ?_
    refine wpAny_pyIter_enum he ?_
    refine ⟨s1.heap.objs.size + 1, [s1.heap.objs.size + 1, s1.heap.objs.size], _, _, H1, rfl, I1.kept (t' := s1.toks) fun b o e => hk b o e, qBv a _ _ (Nat.succ_ne_self _), ⟨⟨_, he⟩, hit⟩, fun b hb => ?_, q⟩
    rcases List.mem_cons.mp hb with rfl | hb
    · exact I1.fpOk (Nat.le_succ _) (I1.hok.fresh (Nat.le_succ _))
    · have e : b = s1.heap.objs.size := by simpa using hb
      subst e
      exact I1.fpOk (Nat.le_refl _) (I1.hok.fresh (Nat.le_refl _))
theorem qAn {K : PySem.W.Frag} {a : Addr} {xs : List V} {g : TG} {tb : TS} {D : qBh} {σ : L2.St} {H : Hp} (Pv : Nat → L2.St → Hp → Prop) (h0 : Pv 0 σ H) (hl : ∀ i σ H, i ≤ xs.length → Pv i σ H → SqL K H a xs)
    (hs : ∀ i x σ H p, xs[i]? = some x → Pv i σ H → H p = none → g (.ref p) σ (upd H p (.tup [.int i, x])) fun σ2 H2 => tb { D with nx := Pv (i + 1), ct := Pv (i + 1), bk := D.nx } σ2 H2) (hd : ∀ σ H, Pv xs.length σ H → D.nx σ H) :
    ∃ W : Nat → Nat → L2.St → Hp → Prop, (∃ m, W 0 m σ H) ∧ ∀ i m σ H, W i m σ H →
      ((Ite K a).stop i H ∧ D.nx σ H) ∨ ((Ite K a).go i H ∧ ∃ N : L2.St → Hp → Prop, (∀ σ' H', N σ' H' → ∃ m', m' < m ∧ W (i + 1) m' σ' H') ∧ ∀ x H', (Ite K a).yld i H x H' → g x σ H' fun σ2 H2 => tb { D with nx := N, ct := N, bk := D.nx } σ2 H2) := by
  refine ⟨fun i m σ H => m = xs.length - i ∧ i ≤ xs.length ∧ Pv i σ H, ⟨xs.length, by simp, Nat.zero_le _, h0⟩, ?_⟩
  rintro i m σ H ⟨rfl, hi, p⟩
  have q := hl i σ H hi p
  by_cases hlt : i < xs.length
  · refine .inr ⟨⟨xs, xs[i], q, by simp [hlt]⟩, Pv (i + 1), fun σ' H' p' => ⟨xs.length - (i + 1), by omega, rfl, hlt, p'⟩, fun x H' y => ?_⟩
    obtain ⟨z, v, hz, rfl, y, rfl⟩ := y
    exact hs i v σ _ z (y xs q) p hz
  · have e : i = xs.length := by omega
    subst e
    exact .inl ⟨⟨xs, q, Nat.le_refl _⟩, hd σ H p⟩
def qHj (t : TT) : TT := fun σ H Q => ∃ R : Bool → Hp → Prop, t σ H R ∧ ∀ b H', R b H' → Q b H'
theorem ku {X : Cx} {e : Expr} {t : TT} (h : PT X e t) : PT X e (qHj t) := by
  rintro pins s σ H Q I ⟨R, ht, hR⟩
  exact thn (h pins s σ H R I ht) fun b s' ⟨H', I', r⟩ => ⟨H', I', hR b H' r⟩
end L3
set_option maxHeartbeats 4000000
namespace L3
open PySem PySem.Spec PyProof.Rows L2
theorem qAt {prog : Program} {w : World} {A : Around} {R : Result → Shared → Prop} {s0 : Shared} {el tg src : Expr} {cs : List Expr} {sco : Scope} {po : Pos} {itv lst : Value} {en : Env} (J : Nat → Shared → Prop)
    (step : ∀ k st, J k st → wpAny (model prog w) A (pyNext itv) (fun got s1 => match got with
      | none => R (.ok .next) s1
      | some u => wpAny (model prog w) A (letOwnedTupleGo tg itv u) (fun _ s1' => wpAny (model prog w) A (assign tg en u) (fun _ s2 =>
          wpAny (model prog w) A (forIn cs true fun c r => if r = true then do let ok ← isTrue c en (eval c en); pure (ForInStep.yield ok) else pure (ForInStep.yield r)) (fun good s3 =>
            if good = true then wpAny (model prog w) A (eval el en) (fun y s4 =>
              wpAny (model prog w) A (call (.builtin "list.append") [lst, y]) (fun _ s5 => ∃ j, j < k ∧ J j s5) (notedBy (model prog w) A en fun x z => R (.error x) z) s4) (notedBy (model prog w) A en fun x z => R (.error x) z) s3
            else ∃ j, j < k ∧ J j s3) (notedBy (model prog w) A en fun x z => R (.error x) z) s2) (notedBy (model prog w) A en fun x z => R (.error x) z) s1') (notedBy (model prog w) A en fun x z => R (.error x) z) s1) (notedBy (model prog w) A en fun x z => R (.error x) z) st)
    (k : Nat) (hJ : J k s0) : codeAny (model prog w) A (.compLoop (.ListComp el [⟨tg, src, cs, 0⟩] sco po) 0 itv lst en) R s0 := by
  refine codeAny_loop rfl J (fun k st hk => ?_) k hJ
  show wpAny _ A ((compTurn (.ListComp el [⟨tg, src, cs, 0⟩] sco po) 0 itv lst en).onRaise (fun x => do noteFrame x en; theTreesLotGoes x)) _ _ st
  refine wpAny_noted ?_
  rw [compTurn_list]
  refine wpAny_bind (wpAny_standAt (wpAny_bind (wpAny_mono (step k st hk) (fun got s1 g1 => ?_) fun _ _ q => q)))
  match got with
  | none => exact wpAny_pure g1
  | some u =>
    refine wpAny_bind (wpAny_mono g1 (fun _ s1' g2 => ?_) fun _ _ q => q)
    refine wpAny_bind (wpAny_mono g2 (fun _ s2 g3 => wpAny_bind (wpAny_mono g3 (fun good s3 g4 => ?_) fun _ _ q => q)) fun _ _ q => q)
    match good with
    | false => exact wpAny_pure ⟨rfl, g4⟩
    | true =>
      refine wpAny_bind (wpAny_bind (wpAny_mono g4 (fun y s4 g5 => ?_) fun _ _ q => q))
      exact wpAny_bind (wpAny_mono g5 (fun _ s5 g6 => wpAny_pure (wpAny_pure ⟨rfl, g6⟩)) fun _ _ q => q)
end L3
set_option maxHeartbeats 4000000
namespace L3
open PySem PySem.Spec PyProof.Rows L2
theorem KV.get {κ : Type} {kvs : List (κ × V)} {vs : List (κ × Value)} (r : KV kvs vs) {i : Nat} {k : κ} {v : V} (h : kvs[i]? = some (k, v)) : ∃ u, vs[i]? = some (k, u) ∧ RelV v u := by
  induction r generalizing i with
  | nil => simp at h
  | @cons p q ps qs hpq _ ih =>
    cases i with
    | zero =>
      have e : p = (k, v) := by simpa using h
      subst e
      obtain ⟨k', u⟩ := q
      have e : k = k' := hpq.1
      subst e
      exact ⟨u, rfl, hpq.2⟩
    | succ i => exact ih (by simpa using h)
section
variable {P : Program} {w : World} {K : PySem.W.Frag}
end
end L3
set_option maxHeartbeats 4000000
namespace L3
open PySem PySem.Spec PyProof.Rows L2
theorem zV {X : Cx} : CallR X (.builtin "isinstance") (fun xs H Q => ∃ (p : Addr) (n t : String) (b : Bool), xs = [.ref p, .ty n] ∧ ((∃ ys, SqT X.K H p ys ∧ t = "tuple") ∨ ∃ kvs : List (Key × V), Rd H p (.dK kvs) ∧ t = "dict") ∧ PySem.W.kitOne X.K (.type t) (.type n) = some b ∧ Q (.bl b) H) := by
  intro pins s σ H xs us Q I r h
  obtain ⟨p, n, t, b, rfl, ht, e, q⟩ := h
  obtain ⟨u, w', rfl, ru, rw'⟩ := qFi r
  cases ru
  have ew : w' = .type n := rw'
  subst ew
  rcases ht with ⟨ys, hy, rfl⟩ | ⟨kvs, hk, rfl⟩
  · obtain ⟨its, _, ⟨o, h1, h2, _⟩, _⟩ := I.tuple hy
    exact PySem.W.kia_one PySem.W.kitx_tuple I.kIn ⟨o, h1, h2⟩ e (fun z => nomatch z) fun tk => ⟨.bl b, H, I.tok tk, rfl, q⟩
  · obtain ⟨_, _, vs, _, o, es, ep, h1, h2, _⟩ := qEq I.hok hk
    exact PySem.W.kia_one PySem.W.kitx_dict I.kIn ⟨o, h1, h2.1⟩ e (fun z => nomatch z) fun tk => ⟨.bl b, H, I.tok tk, rfl, q⟩
def EqIn (P : Program) (w : World) (A : Around) (s : Shared) (y x : Value) : Prop := ∀ (E : Value → Shared → Prop) (Q : Bool → Shared → Prop), Q true s → wpAny (model P w) A (eqBool y x) Q E s
theorem EqIn.rc {P : Program} {w : World} {A : Around} {s : Shared} {l b : Addr} (h : ∀ (E : Value → Shared → Prop) (Q : Value → Shared → Prop), Q (.bool true) s → wpAny (model P w) A (richCompare .Eq (.ref l) (.ref b)) Q E s) : EqIn P w A s (.ref l) (.ref b) := by
  by_cases e : l = b
  · subst e
    exact fun E Q hq => SeqAt.EqAt.same _ P w E Q hq
  · intro E Q hq
    unfold eqBool
    refine wpAny_holding (wpAny_ite_split (fun z => ?_) (fun _ => ?_))
    · have := eq_of_beq z
      injection this with this
      exact absurd this e
    · exact wpAny_bind (h E _ (wpAny_truthy_bool hq))
def DEq (K : PySem.W.Frag) (H : Hp) (a b : Addr) : Prop := ∃ ka kb : List (Key × V), Rd H a (.dK ka) ∧ Rd H b (.dK kb) ∧ ka.length = kb.length ∧ ∀ p ∈ ka, ∃ v d, qA9 kb p.1 = some v ∧ Rep K H d p.2 ∧ Rep K H d v ∧ eqD d d = true ∧ dep d ≤ 50
section
variable {X : Cx} {pins : List (Addr × Obj)} {σ : L2.St} {H : Hp} {s : Shared}
theorem qEf (I : Inv X pins σ H s) {A : Around} (hu : A.units + 50 < cLine) {kb : List (Key × V)} {vb : List (Key × Value)} (rb : KV kb vb) : ∀ {ka : List (Key × V)} {va : List (Key × Value)}, KV ka va →
    (∀ p ∈ ka, ∃ v d, qA9 kb p.1 = some v ∧ Rep X.K H d p.2 ∧ Rep X.K H d v ∧ eqD d d = true ∧ dep d ≤ 50) → PySem.W.KeqHits A s vb va true := by
  intro ka va r
  unfold KV at r
  induction r with
  | nil => exact fun _ => .nil
  | @cons p q ps qs h t ih =>
    intro hp
    obtain ⟨h1, h2⟩ := h
    obtain ⟨v, d, e, r1, r2, g, hd⟩ := hp p (by simp)
    have rv := rb.val p.1
    rw [e] at rv
    cases w : valueAt vb p.1 with
    | none => rw [w] at rv; exact (show False from rv).elim
    | some y =>
      rw [w] at rv
      have rv : RelV v y := rv
      have ea := qDv I 50 A d d p.2 v q.2 y hd hu r1 r2 h2 rv
      rw [g] at ea
      have hq : q = (p.1, q.2) := by rw [h1]
      have k := PySem.W.KeqHits.hit (A := A) (s := s) (kb := vb) (k := p.1) (v := q.2) (e := true) w ea (ih fun x hx => hp x (by simp [hx]))
      rw [hq]
      exact k
theorem DEq.at (I : Inv X pins σ H s) {A : Around} (hu : A.units + 51 < cLine) {a b : Addr} (h : DEq X.K H a b) : EqIn X.prog X.w A s (.ref a) (.ref b) := by
  obtain ⟨ka, kb, ra, rb, hl, hh⟩ := h
  obtain ⟨_, na, va, qa, da⟩ := qEq I.hok ra
  obtain ⟨_, nb, vb, qb, db⟩ := qEq I.hok rb
  refine EqIn.rc fun E Q hq => ?_
  refine PySem.W.keq_eq (r := true) na nb da db (by omega) (fun _ => qEf I (by show A.units + 1 + 50 < cLine; omega) qb qa hh) ?_
  have e : (va.length == vb.length) = true := by rw [← qa.length, ← qb.length, hl]; simp
  rw [e]
  exact hq
end
end L3
set_option maxHeartbeats 4000000
set_option maxRecDepth 100000
namespace L3
open PySem PySem.Spec PyProof.Rows L2
theorem KV.keys {kvs : List (Key × V)} {vs : List (Key × Value)} (r : KV kvs vs) : vs.map (·.1) = kvs.map (·.1) := by
  induction r with
  | nil => rfl
  | cons h _ ih => rw [List.map_cons, List.map_cons, ih, h.1]
end L3
set_option maxHeartbeats 4000000
namespace L3
open PySem PySem.Spec PyProof.Rows L2
def qAa (K : PySem.W.Frag) (js : List Nat) (te : TE) (σ : L2.St) (Q : VK) (J : It) (H1 : Hp) : Prop := ∃ W : Nat → Nat → List V → Hp → Prop, (∃ m, W 0 m [] H1) ∧ ∀ i m acc H2, W i m acc H2 →
  acc.length < sizeLine ∧ ((J.stop i H2 ∧ ∀ D, H2 D = none → Q (.ref D) (upd H2 D (.lst acc))) ∨
    (J.go i H2 ∧ ∀ x H3, J.yld i H2 x H3 → ∃ p va vb vc, x = .ref p ∧ SqT K H3 p [va, vb, vc] ∧ te (some va :: some vb :: some vc :: xD js σ) H3 fun v H5 => ∃ m', m' < m ∧ W (i + 1) m' (acc ++ [v]) H5))
def qDx (K : PySem.W.Frag) (js : List Nat) (wi : TI) (te : TE) : TE := fun σ H Q => wi σ H (qAa K js te σ Q)
theorem qA7 {X : Cx} {elt iter : Expr} {x1 x2 x3 : Str} {px1 px2 px3 : Pos} {tk : Nat} {tpos : Pos} {scope : Scope} {cl : List (Str × Addr)} {pos : Pos} {wi : TI} {te : TE} (ys : List Str) (js : List Nat)
    (hcm : X.calm = true) (hi : PI X (.Tuple [.Name x1 px1, .Name x2 px2, .Name x3 px3] tk tpos) iter wi) (he : ∀ C s H fp, PE (qc X scope cl C (x1 :: x2 :: x3 :: ys) s H fp).nox elt te)
    (hclos : closureFor scope X.env = pure cl := by rfl)
    (hcl : cl.map (fun p => X.env.cells.lookup p.1) = cl.map (fun p => some p.2) := by rfl)
    (hcell : (scope.names.all fun p => p.2 != .cell) = true := by rfl) (hkind : scope.kind = .function := by rfl)
    (hnames : (scope.names.all fun p => p.2 != .local || scope.names.lookup p.1 == some .local) = true := by rfl)
    (hx1 : scope.names.lookup x1 = some .local := by rfl) (hx2 : scope.names.lookup x2 = some .local := by rfl) (hx3 : scope.names.lookup x3 = some .local := by rfl)
    (hhas : ((relabel scope X.env).names.all fun p => (p.2 != .cell && p.2 != .free) || (cl.lookup p.1).isSome) = true := by rfl)
    (hnd : (x1 :: x2 :: x3 :: ys).Nodup := by decide)
    (hjs : js.map (fun j => X.N[j]?) = ys.map some := by rfl)
    (hys : (ys.all fun y => ((relabel scope X.env).names.lookup y == some .cell || (relabel scope X.env).names.lookup y == some .free) && (X.env.scope.names.lookup y == some .cell || X.env.scope.names.lookup y == some .free)) = true := by rfl)
    (hs : ∀ x, foldedSetIterable iter X.env x = pure x := by intro _; rfl)
    {pins : List (Addr × Obj)} {s : Shared} {σ : L2.St} {H : Hp} (R : V → Hp → Prop) (use : Option (Value → Sem Unit)) (Q : Value → Shared → Prop) (I : Inv X pins σ H s) (h : qDx X.K js wi te σ H R)
    (fin : ∀ (v : V) (u : Value) (H' : Hp) (s' : Shared) (C : Addr), Inv X pins σ H' s' → RelV v u → R v H' → (∃ m, s'.heap.Ns C m) → H' C = none → C ≠ X.env.locals → X.s₀.heap.objs.size ≤ C → (∀ y c, X.env.cells.lookup y = some c → c ≠ C) → (∀ p ∈ X.pn ++ pins, p.1 ≠ C) →
      compPost (model X.prog X.w) X.A X.xe use Q u C (.ok .next) s') :
    wpAny (model X.prog X.w) X.A (comprehension (.ListComp elt [⟨.Tuple [.Name x1 px1, .Name x2 px2, .Name x3 px3] tk tpos, iter, [], 0⟩] scope pos) scope X.env (firstIterPos [⟨.Tuple [.Name x1 px1, .Name x2 px2, .Name x3 px3] tk tpos, iter, [], 0⟩] pos) (newList []) false (eval iter X.env) use) Q X.xe s := by
  have hcell' : ∀ y ∈ scope.names, y.2 ≠ .cell := fun y hy => by
    have := List.all_eq_true.mp hcell y hy
    simpa using this
  have hnm : ∀ y ∈ scope.names, y.2 = .local → scope.names.lookup y.1 = some .local := fun y hy e => by
    have := List.all_eq_true.mp hnames y hy
    rw [e] at this
    simpa using this
  have clX : ∀ y c, cl.lookup y = some c → X.env.cells.lookup y = some c := fun y c e => by
    have hm := PySem.mem_of_lookup e
    obtain ⟨k, hk, e2⟩ := List.mem_iff_getElem.mp hm
    have := congrArg (fun l => l[k]?) hcl
    simp only [List.getElem?_map, List.getElem?_eq_getElem hk, Option.map_some, e2] at this
    exact Option.some.inj this
  have has : ∀ y, ((relabel scope X.env).names.lookup y = some .cell ∨ (relabel scope X.env).names.lookup y = some .free) → ∃ c, cl.lookup y = some c := fun y hy => by
    have key : ∀ k : NameKind, (k = .cell ∨ k = .free) → (relabel scope X.env).names.lookup y = some k → ∃ c, cl.lookup y = some c := fun k hk e => by
      have := List.all_eq_true.mp hhas _ (PySem.mem_of_lookup e)
      rcases hk with rfl | rfl <;> exact Option.isSome_iff_exists.mp (by simpa using this)
    rcases hy with e | e
    · exact key _ (.inl rfl) e
    · exact key _ (.inr rfl) e
  refine wpAny_comprehension_free (use := use) rfl hs hclos hkind hnm (thn (hi pins s σ H _ I h) fun v s1 h1 => thn h1 fun itv s2 h2 => ?_)
  obtain ⟨it, fp, tn, J, H2, e, I2, T, st2, f2, W, ⟨m0, w0⟩, turn⟩ := h2
  subst e
  refine wpAny_newObj_type (wpAny_newFunctionEnv hcell' (by intro y hy; simp at hy) (fun h₁ hns hsb => ?_) hkind)
  dsimp only at hns hsb ⊢
  generalize hG : s2.heap.push { cls := .type "list", dict := none, data := .seq ([] : List Value).toArray } = G at hns hsb ⊢
  have szG : G.objs.size = s2.heap.objs.size + 1 := by rw [← hG, Heap.size_push]
  have inG : ∀ b o, s2.heap.get? b = some o → G.get? b = some o := fun b o e => hG ▸ Heap.get?_push_of_some _ e
  have ltC : ∀ b o, s2.heap.get? b = some o → b ≠ G.objs.size := fun b o e => by rw [szG]; exact Nat.ne_of_lt (Nat.lt_succ_of_lt (Heap.lt_size e))
  have ltD : ∀ b o, s2.heap.get? b = some o → b ≠ s2.heap.objs.size := fun b o e => Nat.ne_of_lt (Heap.lt_size e)
  have DC : s2.heap.objs.size ≠ G.objs.size := by rw [szG]; omega
  have old : ∀ b o, s2.heap.get? b = some o → h₁.get? b = some o := fun b o e => hsb.extBut b o (ltC b o e) (Heap.get?_push_of_some _ (inG b o e))
  have hacc : h₁.PlainList s2.heap.objs.size #[] := ⟨_, hsb.extBut _ _ DC (Heap.get?_push_of_some _ (hG ▸ Heap.get?_push_size _ rfl))⟩
  have fpO : ∀ b ∈ fp, ∃ o, s2.heap.get? b = some o := fun b hb => let ⟨o, e, _⟩ := T.obj 0 _ st2 b hb; ⟨o, e⟩
  have stkO : ∀ b ∈ frs X.stack, ∃ o, s2.heap.get? b = some o := fun b hb => by
    obtain ⟨_, o, ho, _⟩ := I2.stack.mem hb
    exact ⟨o, ho⟩
  have freshH : ∀ a, s2.heap.objs.size ≤ a → H2 a = none := fun a ha => I2.hok.fresh ha
  have stkFp : ∀ b ∈ fp, b ∉ frs X.stack := fun b hb z => by
    rcases List.mem_cons.mp (I2.stkSub b z) with q | q
    · exact (f2 b hb).2.1 q
    · exact (f2 b hb).2.2.1 q
  have okX : (qc X scope cl G.objs.size (x1 :: x2 :: x3 :: ys) s2 H2 fp).Ok := {
    mod := I2.ok.mod
    kind := hkind
    glob := I2.ok.glob
    blt := I2.ok.blt
    above := by show s2.heap.objs.size ≤ G.objs.size; rw [szG]; omega
    inj := fun y z c e1 e2 => I2.ok.inj y z c (clX y c e1) (clX z c e2)
    has := fun y hy => has y hy
    cab := fun y c e _ => absurd (show false = true from e) Bool.false_ne_true
    hd := I2.ok.hd
    frames := I2.ok.frames
    stk := .inl rfl
    exf := fun b hb => by
      obtain ⟨o, e⟩ := fpO b hb
      exact ⟨ltC b o e, fun y c e1 => (f2 b hb).2.2.2.2.1 y c (clX y c e1)⟩
    bs := I2.bs
    bsz := Nat.le_trans I2.ok.bsz I2.sz
    noex := fun b o e hb => by
      rcases (f2 b hb).2.2.2.1 with q | q
      · exact I2.ok.noex b o e q
      · exact Nat.lt_irrefl _ (Nat.lt_of_lt_of_le (Nat.lt_of_lt_of_le (Heap.lt_size e) I2.ok.bsz) q)
    exfs := stkFp
    funs := I2.stack
    frf := I2.stkFree }
  have lenY : js.length = ys.length := by have := congrArg List.length hjs; simpa using this
  have I0 : Inv (qc X scope cl G.objs.size (x1 :: x2 :: x3 :: ys) s2 H2 fp) [] (none :: none :: none :: xD js σ) H2 { s2 with heap := h₁, toks := s2.toks + ([] : List (Str × Value)).length } := by
    refine ⟨okX, rfl, I2.bare, Un.kept old, ⟨_, hns, fun k y v e1 e2 e3 => ?_⟩, fun y c e => ?_, freshH _ (by show s2.heap.objs.size ≤ G.objs.size; rw [szG]; omega), fun y c e => I2.freeC y c (clX y c e), fun p hp => absurd (show p ∈ ([] : List (Addr × Obj)) from hp) (by simp), I2.hok.kept old, ?_⟩
    · match k, e1, e2 with
      | 0, e1, e2 => cases e2
      | 1, e1, e2 => cases e2
      | 2, e1, e2 => cases e2
      | k + 3, e1, e2 =>
        have e1' : ys[k]? = some y := e1
        have e2' : (xD js σ)[k]? = some (some v) := e2
        unfold xD at e2'
        rw [List.getElem?_map] at e2'
        cases ej : js[k]? with
        | none => rw [ej] at e2'; cases e2'
        | some j =>
          rw [ej] at e2'
          have e4 : (σ[j]?).join = some v := Option.some.inj e2'
          have e5 : σ[j]? = some (some v) := by
            cases q : σ[j]? with
            | none => rw [q] at e4; cases e4
            | some o => rw [q] at e4; exact congrArg some e4
          have e6 : X.N[j]? = some y := by
            have := congrArg (fun l => l[k]?) hjs
            simp only [List.getElem?_map, ej, e1', Option.map_some] at this
            exact Option.some.inj this
          have hy := List.all_eq_true.mp hys y (List.mem_of_getElem? e1')
          simp only [Bool.and_eq_true, Bool.or_eq_true, beq_iff_eq] at hy
          obtain ⟨ky, ko⟩ := hy
          obtain ⟨m, hn, hl⟩ := I2.loc
          obtain ⟨u, r, lk⟩ := hl j y v e6 e5 (.inr ko)
          refine ⟨u, r, .inr ⟨ky, ?_⟩⟩
          rcases lk with ⟨kl, _⟩ | ⟨_, c, ec, hc⟩
          · have kl' : X.env.scope.names.lookup y = some .local := kl
            rw [kl'] at ko
            rcases ko with z | z <;> cases z
          · obtain ⟨c', ec'⟩ := has y ky
            have := clX y c' ec'
            rw [ec] at this
            cases this
            obtain ⟨o, ho, hd⟩ := hc
            exact ⟨c, ec', o, old c o ho, hd⟩
    · obtain ⟨v, o, ho, hd⟩ := I2.cell y c (clX y c e)
      exact ⟨v, o, old c o ho, hd⟩
    · show (none :: none :: none :: xD js σ).length = (x1 :: x2 :: x3 :: ys).length
      simp [xD, lenY]
  have loop : ∀ s3 : Shared, s3 = { s2 with heap := h₁, toks := s2.toks + ([] : List (Str × Value)).length } →
      codeAny (model X.prog X.w) X.A (.compLoop (.ListComp elt [⟨.Tuple [.Name x1 px1, .Name x2 px2, .Name x3 px3] tk tpos, iter, [], 0⟩] scope pos) 0 (.ref it) (.ref s2.heap.objs.size) (compEnvC scope cl G.objs.size X.env))
        (compPost (model X.prog X.w) X.A X.xe use Q (.ref s2.heap.objs.size) G.objs.size) s3 := by
    rintro s3 rfl
    have stat : ∀ {H' : Hp} (o : Obj), (∀ b ∈ fp, H' b = none) → ∀ b ∈ fp, qB8 (qc X scope cl G.objs.size (x1 :: x2 :: x3 :: ys) s2 H2 fp) [(s2.heap.objs.size, o)] H' b := fun {H'} o hn b hb => by
      obtain ⟨ob, eb⟩ := fpO b hb
      refine ⟨hn b hb, ltC b ob eb, stkFp b hb, .inl hb, fun y c e1 => (f2 b hb).2.2.2.2.1 y c (clX y c e1), fun p hp => ?_⟩
      have hp' : p = (s2.heap.objs.size, o) := by
        have : p ∈ [(s2.heap.objs.size, o)] := hp
        simpa using this
      rw [hp']
      exact Ne.symm (ltD b ob eb)
    refine qAt (fun n s' => ∃ i acc its H3, Inv (qc X scope cl G.objs.size (x1 :: x2 :: x3 :: ys) s2 H2 fp) [] (none :: none :: none :: xD js σ) H3 s' ∧ tn i s'.heap ∧ (∀ b ∈ fp, H3 b = none) ∧ s'.heap.PlainList s2.heap.objs.size its.toArray ∧ Vals acc its ∧ H3 s2.heap.objs.size = none ∧ W i n acc H3)
      ?_ m0 ⟨0, [], [], H2, I0, T.keep _ _ _ st2 fun b _ o e => old b o e, fun b hb => (f2 b hb).1, hacc, .nil, freshH _ (Nat.le_refl _), w0⟩
    rintro n s3 ⟨i, acc, its, H3, I3, st3, fr3, ⟨nn, pl3⟩, va3, hD3, w3⟩
    obtain ⟨hlen, cs⟩ := turn i n acc H3 w3
    have hal : acc.length = its.length := va3.length
    have nD : s2.heap.objs.size ∉ frs X.stack := fun z => by
      obtain ⟨o, e⟩ := stkO _ z
      exact ltD _ o e rfl
    have I3p : Inv (qc X scope cl G.objs.size (x1 :: x2 :: x3 :: ys) s2 H2 fp) [(s2.heap.objs.size, { cls := .type "list", data := .seq its.toArray nn })] (none :: none :: none :: xD js σ) H3 s3 := I3.pins_of fun p hp => by
      have e : p = (s2.heap.objs.size, { cls := .type "list", data := .seq its.toArray nn }) := by simpa using hp
      subst e
      exact ⟨pl3, hD3, DC, nD, fun v z => nomatch z⟩
    rcases cs with ⟨stop, q⟩ | ⟨go, step⟩
    · refine thn (T.done (qc X scope cl G.objs.size (x1 :: x2 :: x3 :: ys) s2 H2 fp) rfl rfl rfl hcm i _ s3 _ H3 _ I3p (stat _ fr3) st3 stop) fun r s4 hr => ?_
      obtain ⟨hr, I4⟩ := hr
      subst hr
      have pl4 := (I4.pin (s2.heap.objs.size, { cls := .type "list", data := .seq its.toArray nn }) (by simp)).1
      obtain ⟨m, hn, _⟩ := I4.loc
      have B := I4.base
      have un' : Un (frs X.stack) fp H2 (upd H3 s2.heap.objs.size (.lst acc)) s2.heap s4.heap := by
        refine ⟨fun b o e n hb hx => B.keep b o e n hb hx, fun b o e n hb hx => B.slot b o e n hb hx, fun b o e n hx => ?_, fun b o e hx => B.there b o e hx, fun b xs e => ?_, fun b o u e => ?_, fun b ps e => ?_⟩
        · rw [qW (ltD b o e)]
          exact B.free b o e n hx
        · have z := B.tups b xs e
          rw [qW (qL z hD3)]
          exact z
        · have z := B.frzs b o u e
          rw [qW (qL z hD3)]
          exact z
        · obtain ⟨more, z⟩ := B.tbls b ps e
          exact ⟨more, by rw [qW (qL z hD3)]; exact z⟩
      have freeC4 : H3 G.objs.size = none := I4.free
      have hok' : HOk X.prog X.w (upd H3 s2.heap.objs.size (.lst acc)) s4.heap := fun b u e => by
        by_cases hb : b = s2.heap.objs.size
        · subst hb
          rw [qC] at e
          cases e
          exact ⟨Nat.le_of_lt hlen, its, nn, va3, pl4⟩
        · rw [qW hb] at e
          exact (I4.hok b u e).stay (fun c v hc z => z) (fun c z => by rw [qW (qL z hD3)]; exact z) fun c xs z => by rw [qW (qL z hD3)]; exact z
      have hch : ∀ b ∈ fp, (b ∈ X.ex ∨ X.s₀.heap.objs.size ≤ b) ∧ b ≠ X.env.locals ∧ (∀ y c, X.env.cells.lookup y = some c → c ≠ b) ∧ ∀ p ∈ X.pn ++ pins, p.1 ≠ b := fun b hb => by
        obtain ⟨_, z1, _, z3, z4, z5⟩ := f2 b hb
        exact ⟨z3, z1, z4, z5⟩
      have I5 := I2.call' (s' := s4) (ch := fp) I4.os un' hok' I4.bare hch
      refine fin (.ref s2.heap.objs.size) _ _ s4 G.objs.size I5 rfl (q _ hD3) ⟨m, hn⟩ ?_ ?_ ?_ (fun y c e => ?_) fun p hp => ?_
      · rw [qW (Ne.symm DC)]; exact freeC4
      · rw [szG]; exact Nat.ne_of_gt (Nat.lt_succ_of_lt I2.lt)
      · rw [szG]; exact Nat.le_succ_of_le I2.sz
      · obtain ⟨v, o, ho, _⟩ := I2.cell y c e
        exact ltC c o ho
      · exact ltC p.1 p.2 (I2.pin p hp).1
    · refine thn (T.item (qc X scope cl G.objs.size (x1 :: x2 :: x3 :: ys) s2 H2 fp) rfl rfl rfl hcm i _ s3 _ H3 _ I3p (stat _ fr3) st3 go) fun r s4 hr => ?_
      obtain ⟨u, hr, h4⟩ := hr
      subst hr
      refine thn h4 fun _ s5 h5 => ?_
      obtain ⟨v, H5, I5, r5, y5, st5, fr5⟩ := h5
      have I5' := I5.pinned (stat _ fr5) (T.obj _ _ st5)
      obtain ⟨pt, va, vb, vc, ev, hsq, q5⟩ := step v H5 y5
      have pg : PG (qc X scope cl G.objs.size (x1 :: x2 :: x3 :: ys) s2 H2 fp).nox (.Tuple [.Name x1 px1, .Name x2 px2, .Name x3 px3] tk tpos) (qG8 X.K 3 (qCx (qA0 0) (qCx (qA0 1) (qCx (qA0 2) qG9)))) :=
        qAg (n := 3) hcm (jA (qo (i := 0) hnd rfl (.inl (lookup_relabel_local hx1)) (.inr (lookup_relabel_local hx1))) (jA (qo (i := 1) hnd rfl (.inl (lookup_relabel_local hx2)) (.inr (lookup_relabel_local hx2))) (jA (qo (i := 2) hnd rfl (.inl (lookup_relabel_local hx3)) (.inr (lookup_relabel_local hx3))) kM)))
      have I5n : Inv (qc X scope cl G.objs.size (x1 :: x2 :: x3 :: ys) s2 H2 fp).nox _ _ H5 s5 := I5'.wish _
      refine wpAny_mono (pg _ s5 _ H5 v u (fun σ' H' => σ' = some va :: some vb :: some vc :: xD js σ ∧ H' = H5) I5n r5 ⟨pt, _, ev, hsq, rfl, _, _, rfl, _, _, rfl, _, _, rfl, rfl, rfl, rfl⟩) (fun _ s6 h6 => ?_) fun _ _ z => z.elim
      obtain ⟨σ6, H6', I6', eσ, eH⟩ := h6
      subst eσ eH
      have back : ∀ (H7 : Hp) (s7 : Shared) (σ7 : L2.St) (h' : Heap) (acc' : List V) (its' : List Value) (m' : Nat), Inv (qc X scope cl G.objs.size (x1 :: x2 :: x3 :: ys) s2 H2 fp) ([(s2.heap.objs.size, { cls := .type "list", data := .seq its.toArray nn })] ++ kj fp s5.heap) (some va :: some vb :: some vc :: xD js σ) H7 s7 →
          Heap.SameBut s2.heap.objs.size s7.heap h' → h'.PlainList s2.heap.objs.size its'.toArray → Vals acc' its' → m' < n → W (i + 1) m' acc' H7 →
          ∃ m, m < n ∧ ∃ i acc its H3, Inv (qc X scope cl G.objs.size (x1 :: x2 :: x3 :: ys) s2 H2 fp) [] (none :: none :: none :: xD js σ) H3 { s7 with heap := h' } ∧ tn i h' ∧ (∀ b ∈ fp, H3 b = none) ∧ h'.PlainList s2.heap.objs.size its.toArray ∧ Vals acc its ∧ H3 s2.heap.objs.size = none ∧ W i m acc H3 := by
        intro H7 s7 _ h' acc' its' m' I7 hsb' hp' va' hm' w7
        have pinD := I7.pin (s2.heap.objs.size, { cls := .type "list", data := .seq its.toArray nn }) (by simp)
        have pf : ∀ b ∈ fp, ∀ o, s5.heap.get? b = some o → s7.heap.get? b = some o ∧ H7 b = none := fun b hb o e => by
          have z := I7.pin (b, o) (List.mem_append_right _ (List.mem_append_right _ (xP hb e)))
          exact ⟨z.1, z.2.1⟩
        have I8 : Inv (qc X scope cl G.objs.size (x1 :: x2 :: x3 :: ys) s2 H2 fp) [] (none :: none :: none :: xD js σ) H7 { s7 with heap := h' } := by
          have I7u : Inv (qc X scope cl G.objs.size (x1 :: x2 :: x3 :: ys) s2 H2 fp) [] (none :: none :: none :: xD js σ) H7 s7 := (I7.pins_of (pins' := []) fun p hp => absurd hp (by simp)).weak (by simp) fun k v e => by
            match k, e with
            | 0, e => cases e
            | 1, e => cases e
            | 2, e => cases e
            | k + 3, e => exact e
          refine I7u.turned (t' := s7.toks) (it := s2.heap.objs.size) (fun b o hb e => hsb'.extBut b o hb e) pinD.2.1 DC (.inr (Nat.le_refl _)) (fun y c e => ?_) fun p hp => absurd (show p ∈ ([] : List (Addr × Obj)) from hp) (by simp)
          obtain ⟨v, o, ho, _⟩ := I2.cell y c (clX y c e)
          exact ltD c o ho
        refine ⟨m', hm', i + 1, acc', its', H7, I8, ?_, fun b hb => ?_, hp', va', pinD.2.1, w7⟩
        · refine T.keep _ _ _ st5 fun b hb o e => hsb'.extBut b o ?_ (pf b hb o e).1
          obtain ⟨ob, eb⟩ := fpO b hb
          exact ltD b ob eb
        · obtain ⟨o, e, _⟩ := T.obj _ _ st5 b hb
          exact (pf b hb o e).2
      simp only [List.forIn_nil]
      refine wpAny_pure ?_
      rw [if_pos rfl]
      refine wpAny_mono (he G.objs.size s2 H2 fp _ s6 _ _ _ I6' q5) (fun y s7 h7 => ?_) fun _ _ z => z.elim
      obtain ⟨v7, H7, I7, r7, m', hm', w7⟩ := h7
      have I7 := I7.unwish
      have pinD := I7.pin (s2.heap.objs.size, { cls := .type "list", data := .seq its.toArray nn }) (by simp)
      refine wpAny_list_append_plain (items := its.toArray) ⟨nn, pinD.1⟩ (fun h' hp' hsb' => ?_) (by rw [List.size_toArray, ← hal]; exact Nat.le_of_lt hlen)
      have e8 : its.toArray.push y = (its ++ [y]).toArray := by simp
      rw [e8] at hp'
      exact back H7 s7 (none :: none :: none :: xD js σ) h' (acc ++ [v7]) (its ++ [y]) m' I7 hsb' hp' (va3.append (.cons r7 .nil)) hm' w7
  exact codeAny_compStart_list (loop _ rfl) (T.self _ 0 _ _ _ (T.keep _ _ _ st2 fun b _ o e => old b o e) (loop _ rfl))
theorem qCv {X : Cx} {elt iter : Expr} {x1 x2 x3 : Str} {px1 px2 px3 : Pos} {tk : Nat} {tpos : Pos} {scope : Scope} {cl : List (Str × Addr)} {pos : Pos} {wi : TI} {te : TE} (ys : List Str) (js : List Nat)
    (hcm : X.calm = true) (hi : PI X (.Tuple [.Name x1 px1, .Name x2 px2, .Name x3 px3] tk tpos) iter wi) (he : ∀ C s H fp, PE (qc X scope cl C (x1 :: x2 :: x3 :: ys) s H fp).nox elt te)
    (hclos : closureFor scope X.env = pure cl := by rfl)
    (hcl : cl.map (fun p => X.env.cells.lookup p.1) = cl.map (fun p => some p.2) := by rfl)
    (hcell : (scope.names.all fun p => p.2 != .cell) = true := by rfl) (hkind : scope.kind = .function := by rfl)
    (hnames : (scope.names.all fun p => p.2 != .local || scope.names.lookup p.1 == some .local) = true := by rfl)
    (hx1 : scope.names.lookup x1 = some .local := by rfl) (hx2 : scope.names.lookup x2 = some .local := by rfl) (hx3 : scope.names.lookup x3 = some .local := by rfl)
    (hhas : ((relabel scope X.env).names.all fun p => (p.2 != .cell && p.2 != .free) || (cl.lookup p.1).isSome) = true := by rfl)
    (hnd : (x1 :: x2 :: x3 :: ys).Nodup := by decide)
    (hjs : js.map (fun j => X.N[j]?) = ys.map some := by rfl)
    (hys : (ys.all fun y => ((relabel scope X.env).names.lookup y == some .cell || (relabel scope X.env).names.lookup y == some .free) && (X.env.scope.names.lookup y == some .cell || X.env.scope.names.lookup y == some .free)) = true := by rfl)
    (hs : ∀ x, foldedSetIterable iter X.env x = pure x := by intro _; rfl) : PE X (.ListComp elt [⟨.Tuple [.Name x1 px1, .Name x2 px2, .Name x3 px3] tk tpos, iter, [], 0⟩] scope pos) (qDx X.K js wi te) := by
  intro pins s σ H Q I h
  rw [eval_ListComp]
  refine qA7 ys js hcm hi he hclos hcl hcell hkind hnames hx1 hx2 hx3 hhas hnd hjs hys hs Q none (EP X pins σ Q) I h fun v u H' s' C I' r q hm h0 h1 h2 h3 h4 => ?_
  obtain ⟨m, hm⟩ := hm
  exact ⟨m, hm, fun h' hsb => ⟨v, H', vM I' hsb h0 h1 h2 h3 h4, r, q⟩⟩
theorem qAr {K : PySem.W.Frag} {a : Addr} {xs : List V} {js : List Nat} {te : TE} {σ : L2.St} {H : Hp} {Q : VK} (Pv : Nat → List V → Hp → Prop) (h0 : Pv 0 [] H) (hl : ∀ i acc H, i ≤ xs.length → Pv i acc H → SqL K H a xs ∧ acc.length < sizeLine)
    (hs : ∀ i x acc H, i < xs.length → xs[i]? = some x → Pv i acc H → ∃ p va vb vc, x = .ref p ∧ SqT K H p [va, vb, vc] ∧ te (some va :: some vb :: some vc :: xD js σ) H fun v H' => Nxt xs.length i (Pv (i + 1) (acc ++ [v]) H')) (hd : ∀ acc H, Pv xs.length acc H → ∀ D, H D = none → Q (.ref D) (upd H D (.lst acc))) : qAa K js te σ Q (Itl K a) H := by
  refine ⟨fun i m acc H => m = xs.length - i ∧ i ≤ xs.length ∧ Pv i acc H, ⟨xs.length, by simp, Nat.zero_le _, h0⟩, ?_⟩
  rintro i m acc H2 ⟨rfl, hi, p⟩
  obtain ⟨q, hz⟩ := hl i acc H2 hi p
  refine ⟨hz, ?_⟩
  by_cases hlt : i < xs.length
  · refine .inr ⟨⟨xs, xs[i], q, by simp [hlt]⟩, fun x H3 y => ?_⟩
    obtain ⟨e, y⟩ := y
    subst e
    exact hs i x acc _ hlt (y xs q) p
  · have e : i = xs.length := by omega
    subst e
    exact .inl ⟨⟨xs, q, Nat.le_refl _⟩, hd acc H2 p⟩
theorem qD8 {X : Cx} {K : PySem.W.Frag} (h : X.K = K) (hu : X.A.units < cLine) : OpR X (compareOp .Eq) (qGg K false) := h ▸ qDw hu
end L3
set_option maxHeartbeats 4000000
namespace L3
open PySem PySem.Spec PyProof.Rows L2
theorem v5 {prog : Program} {w : World} {A : Around} {E : Value → Shared → Prop} {it t : Addr} {items : Array Value} (hne : t ≠ it) : ∀ (n i : Nat) (s : Shared) (Q : List Value → Shared → Prop), s.heap.IsListIter it t i → s.heap.IsList t items → i + n ≤ items.size →
    (∀ h', h'.IsListIter it t (i + n) → Heap.SameBut it s.heap h' → Q ((items.toList.drop i).take n) { s with heap := h' }) → wpAny (model prog w) A (draw (.ref it) n) Q E s
  | 0, i, s, Q, hit, _, _, hQ => by
    show wpAny _ _ (pure []) Q E s
    exact wpAny_pure (by simpa using hQ s.heap hit (Heap.SameBut.refl ..))
  | n + 1, i, s, Q, hit, ht, hle, hQ => by
    have hlt : i < items.size := by omega
    show wpAny _ _ (pyNext (.ref it) >>= _) Q E s
    refine wpAny_bind (wpAny_pyNext_list_item hit ht (x := items[i]) (by simp [hlt]) fun h₁ hit₁ hs₁ => ?_)
    refine wpAny_bind (wpAny_holding (v5 hne n (i + 1) _ _ hit₁ (ht.extBut hs₁.extBut hne) (by omega) fun h₂ hit₂ hs₂ => wpAny_pure ?_))
    have hd : items.toList.drop i = items[i] :: items.toList.drop (i + 1) := by simp [List.drop_eq_getElem_cons, hlt]
    have := hQ h₂ (by rw [show i + (n + 1) = i + 1 + n by omega]; exact hit₂) (hs₁.trans hs₂)
    rw [hd, List.take_succ_cons] at this
    exact this
theorem zm {prog : Program} {w : World} {A : Around} {E : Value → Shared → Prop} {s : Shared} {t : Addr} {items : Array Value} {Q : List Value → Shared → Prop} (hh : A.handled = none) (ht : s.heap.IsList t items)
    (hQ : ∀ h', Heap.ExtBut s.heap.objs.size s.heap h' → Q items.toList { s with heap := h' }) : wpAny (model prog w) A (unpackItems (.ref t) items.size none) Q E s := by
  have hlt : t ≠ s.heap.objs.size := by obtain ⟨o, ho, _⟩ := ht; exact Nat.ne_of_lt (Heap.lt_size ho)
  unfold unpackItems
  refine wpAny_bind ?_
  · unfold notIterableAtAll
    refine wpAny_bind (wpAny_specialOf ht.typeIs slot_list_iter.lookup ?_)
    refine wpAny_pure ?_
    simp only [Bool.false_eq_true, if_false]
    refine wpAny_bind (wpAny_holding (wpAny_pyIter_list ht ?_))
    refine wpAny_bind (wpAny_holding (v5 hlt items.size 0 _ _ ⟨_, Heap.get?_push_size _ rfl, rfl, rfl⟩ (ht.push _) (by omega) fun h₁ hit₁ hs₁ => ?_))
    have hall : List.take items.size (List.drop 0 items.toList) = items.toList := by
      rw [List.drop_zero]; exact List.take_of_length_le (by simp)
    rw [hall]
    rw [if_neg (by simp)]
    have ht₁ : h₁.IsList t items := (ht.push _).extBut hs₁.extBut hlt
    refine wpAny_bind (wpAny_holding (wpAny_pyNext_list_end hh hit₁ ht₁ (by simp) fun h₂ he₂ => ?_))
    simp only [Option.isSome_none, Bool.false_eq_true, if_false]
    refine wpAny_pure (hQ h₂ fun b o hb e => he₂ b o hb (hs₁.extBut b o hb (Heap.get?_push_of_some _ e)))
def qG2 (K : PySem.W.Frag) (n : Nat) (t : TGs) : TG := fun v σ H Q => ∃ a xs, v = .ref a ∧ SqL K H a xs ∧ xs.length = n ∧ t xs σ H Q
theorem qEs {X : Cx} {pos : Pos} {es : List Expr} {k : Nat} {t : TGs} {n : Nat} (hc : X.calm = true) (h : PGs X es t)
    (hn : (assignEach es X.env).length = n := by rfl) (hst : (assignEach es X.env).findIdx? (·.1) = none := by rfl) : PG X (.Tuple es k pos) (qG2 X.K n t) := by
  intro pins s σ H v u Q I r hw
  obtain ⟨a, xs, e1, hq, hl, hw⟩ := hw
  subst e1
  cases r
  obtain ⟨its, rv, ht, hz⟩ := I.list hq
  have hsz : (assignEach es X.env).length = its.toArray.size := by simp [hn, ← hl, rv.length]
  rw [assign_Tuple]
  refine wpAny_bind (wpAny_standAt ?_)
  unfold unpack
  rw [hsz, hst]
  refine wpAny_bind (wpAny_holding (zm (I.ok.hd hc) ht.isList fun h' hx => ?_))
  have I1 : Inv X pins σ H { s with heap := h' } := I.kept (t' := s.toks) fun b o e => hx b o (Nat.ne_of_lt (Heap.lt_size e)) e
  exact h pins _ σ H xs _ Q I1 (by simpa using rv) hw
end L3
set_option maxHeartbeats 4000000
set_option maxRecDepth 100000
namespace Lw
open PySem L2 L3 Mt
seal L2.PSs L2.PS L2.PE L2.PA L2.PT L2.PW L2.PC L2.PI L2.PG L2.PGs L2.PO
def top (i : Nat) : Stmt := PySem.Challenge.pw_reelcut_k82_whole_read_back.main.body.getD i (.Pass ⟨0, 0, 0, 0⟩)
abbrev j8 : Stmt := top 5
abbrev qt : Stmt := top 6
abbrev ja : Stmt := top 7
abbrev j5 : Stmt := top 8
abbrev xh : Stmt := top 9
abbrev xA : Stmt := top 10
abbrev j7 : Stmt := top 11
abbrev jv : Stmt := top 12
abbrev j6 : Stmt := top 13
abbrev xL : Stmt := top 14
abbrev xN : Stmt := top 19
abbrev jG : Stmt := top 20
abbrev jw : Stmt := top 22
abbrev jH : Stmt := top 23
abbrev qg : Stmt := top 24
abbrev jl : Stmt := top 25
abbrev xO : Stmt := top 30
abbrev jc : Stmt := top 31
abbrev qv : Stmt := top 32
abbrev xj : Stmt := top 33
abbrev xR : Stmt := top 34
abbrev jq : Stmt := top 35
abbrev xK : Stmt := top 36
abbrev jP : Stmt := top 37
abbrev jh : Stmt := top 38
abbrev jg : Stmt := top 39
abbrev jN : Stmt := top 40
abbrev jt : Stmt := top 41
abbrev jM : Stmt := top 43
abbrev jk : Stmt := top 44
abbrev jZ : Stmt := top 45
abbrev ju : Stmt := top 46
abbrev jj : Stmt := top 47
abbrev jr : Stmt := top 48
abbrev jb : Stmt := top 49
abbrev jQ : Stmt := top 50
abbrev q9 : Stmt := top 51
abbrev ji : Stmt := top 52
abbrev q8 : Stmt := top 53
abbrev jR : Stmt := top 54
abbrev kw : Stmt := top 55
theorem kP : qV ["x"] ["x"] (qG j8) := ⟨rfl, rfl, rfl, by decide +kernel, rfl, by decide +kernel, by decide +kernel⟩
theorem sc_common_divisor : qV ["one", "other", "rest"] ["one", "other"] (qG qt) := ⟨rfl, rfl, rfl, by decide +kernel, rfl, by decide +kernel, by decide +kernel⟩
theorem ke : qV ["x"] ["x"] (qG ja) := ⟨rfl, rfl, rfl, by decide +kernel, rfl, by decide +kernel, by decide +kernel⟩
theorem sc_fraction : qV ["top", "bottom", "divisor"] ["top", "bottom"] (qG j5) := ⟨rfl, rfl, rfl, by decide +kernel, rfl, by decide +kernel, by decide +kernel⟩
theorem qB7 : qV ["one", "other"] ["one", "other"] (qG xh) := ⟨rfl, rfl, rfl, by decide +kernel, rfl, by decide +kernel, by decide +kernel⟩
theorem wu : qV ["one", "other"] ["one", "other"] (qG xA) := ⟨rfl, rfl, rfl, by decide +kernel, rfl, by decide +kernel, by decide +kernel⟩
theorem wm : qV ["one", "other"] ["one", "other"] (qG j7) := ⟨rfl, rfl, rfl, by decide +kernel, rfl, by decide +kernel, by decide +kernel⟩
theorem v6 : qV ["one", "other"] ["one", "other"] (qG jv) := ⟨rfl, rfl, rfl, by decide +kernel, rfl, by decide +kernel, by decide +kernel⟩
theorem wn : qV ["one"] ["one"] (qG j6) := ⟨rfl, rfl, rfl, by decide +kernel, rfl, by decide +kernel, by decide +kernel⟩
theorem qA3 : qV ["one"] ["one"] (qG xL) := ⟨rfl, rfl, rfl, by decide +kernel, rfl, by decide +kernel, by decide +kernel⟩
theorem qA1 : qV ["thing"] ["thing"] (qG xN) := ⟨rfl, rfl, rfl, by decide +kernel, rfl, by decide +kernel, by decide +kernel⟩
theorem zk : qV ["item"] ["item"] (qG jG) := ⟨rfl, rfl, rfl, by decide +kernel, rfl, by decide +kernel, by decide +kernel⟩
theorem wP : qV ["thing"] ["thing"] (qG jw) := ⟨rfl, rfl, rfl, by decide +kernel, rfl, by decide +kernel, by decide +kernel⟩
theorem zn : qV ["item"] ["item"] (qG jH) := ⟨rfl, rfl, rfl, by decide +kernel, rfl, by decide +kernel, by decide +kernel⟩
theorem xZ : qV ["item"] ["item"] (qG qg) := ⟨rfl, rfl, rfl, by decide +kernel, rfl, by decide +kernel, by decide +kernel⟩
theorem vZ : qV ["item"] ["item"] (qG jl) := ⟨rfl, rfl, rfl, by decide +kernel, rfl, by decide +kernel, by decide +kernel⟩
theorem qAw : qV ["thing"] ["thing"] (qG xO) := ⟨rfl, rfl, rfl, by decide +kernel, rfl, by decide +kernel, by decide +kernel⟩
theorem kZ : qV ["rate", "other"] ["rate", "other"] (qG jc) := ⟨rfl, rfl, rfl, by decide +kernel, rfl, by decide +kernel, by decide +kernel⟩
theorem zK : qV ["item"] ["item"] (qG qv) := ⟨rfl, rfl, rfl, by decide +kernel, rfl, by decide +kernel, by decide +kernel⟩
theorem sc_row_at : qV ["border", "by", "what", "place"] ["border", "by", "what"] (qG xj) := ⟨rfl, rfl, rfl, by decide +kernel, rfl, by decide +kernel, by decide +kernel⟩
theorem sc_written : qV ["track", "rate", "other", "by", "rows", "border", "item"] ["track", "rate", "other"] (qG xR) := ⟨rfl, rfl, rfl, by decide +kernel, rfl, by decide +kernel, by decide +kernel⟩
theorem vm : qV ["track", "rate", "other"] ["track", "rate", "other"] (qG jq) := ⟨rfl, rfl, rfl, by decide +kernel, rfl, by decide +kernel, by decide +kernel⟩
theorem qBb : qV ["what"] ["what"] (qG xK) := ⟨rfl, rfl, rfl, by decide +kernel, rfl, by decide +kernel, by decide +kernel⟩
theorem kH : qV ["row"] ["row"] (qG jP) := ⟨rfl, rfl, rfl, by decide +kernel, rfl, by decide +kernel, by decide +kernel⟩
theorem vV : qV ["kind", "ahead"] ["kind", "ahead"] (qG jh) := ⟨rfl, rfl, rfl, by decide +kernel, rfl, by decide +kernel, by decide +kernel⟩
theorem vK : qV ["border", "borders", "ahead"] ["border", "borders", "ahead"] (qG jg) := ⟨rfl, rfl, rfl, by decide +kernel, rfl, by decide +kernel, by decide +kernel⟩
theorem sc_borders_read : qV ["rows", "rate", "other", "by", "borders", "ahead", "number", "row", "place"] ["rows", "rate", "other"] (qG jN) := ⟨rfl, rfl, rfl, by decide +kernel, rfl, by decide +kernel, by decide +kernel⟩
theorem sc_read_back : qV ["rows", "rate", "other", "borders", "track", "number", "row", "what"] ["rows", "rate", "other"] (qG jt) := ⟨rfl, rfl, rfl, by decide +kernel, rfl, by decide +kernel, by decide +kernel⟩
theorem kQ : qV ["_law_script", "_law_k"] ["_law_script", "_law_k"] (qG jM) := ⟨rfl, rfl, rfl, by decide +kernel, rfl, by decide +kernel, by decide +kernel⟩
theorem sc__law_drawn : qV ["_law_number", "_law_many", "_law_found", "_law_x", "_law_k"] ["_law_number", "_law_many"] (qG jk) := ⟨rfl, rfl, rfl, by decide +kernel, rfl, by decide +kernel, by decide +kernel⟩
theorem sc__law_lowest : qV ["_law_top", "_law_bottom", "_law_one", "_law_other"] ["_law_top", "_law_bottom"] (qG jZ) := ⟨rfl, rfl, rfl, by decide +kernel, rfl, by decide +kernel, by decide +kernel⟩
theorem sc__law_part : qV ["_law_x", "_law_cell", "_law_step", "_law_start", "_law_length"] ["_law_x", "_law_cell"] (qG ju) := ⟨rfl, rfl, rfl, by decide +kernel, rfl, by decide +kernel, by decide +kernel⟩
theorem sc__law_track : qV ["_law_cells", "_law_track_here", "_law_k", "_law_x", "_law_item"] ["_law_cells"] (qG jj) := ⟨rfl, rfl, rfl, by decide +kernel, rfl, by decide +kernel, by decide +kernel⟩
theorem wN : qV ["_law_x"] ["_law_x"] (qG jr) := ⟨rfl, rfl, rfl, by decide +kernel, rfl, by decide +kernel, by decide +kernel⟩
theorem sc__law_digits : qV ["_law_number", "_law_sizes", "_law_found", "_law_size"] ["_law_number", "_law_sizes"] (qG jb) := ⟨rfl, rfl, rfl, by decide +kernel, rfl, by decide +kernel, by decide +kernel⟩
theorem sc__law_item_of : qV ["_law_digits_here", "_law_kind", "_law_length", "_law_top", "_law_bottom", "_law_step", "_law_under", "_law_letter", "_law_mix", "_law_name"] ["_law_digits_here"] (qG jQ) := ⟨rfl, rfl, rfl, by decide +kernel, rfl, by decide +kernel, by decide +kernel⟩
theorem sc__law_by_digits : qV ["_law_number", "_law_sizes", "_law_digits_here", "_law_track_here", "_law_k", "_law_some", "_law_item"] ["_law_number"] (qG q9) := ⟨rfl, rfl, rfl, by decide +kernel, rfl, by decide +kernel, by decide +kernel⟩
theorem sc__law_rates : qV ["_law_script", "_law_cell", "_law_tops", "_law_rate_here"] ["_law_script"] (qG ji) := ⟨rfl, rfl, rfl, by decide +kernel, rfl, by decide +kernel, by decide +kernel⟩
theorem sc__law_other_way : qV ["_law_rows", "_law_rate_here", "_law_found"] ["_law_rows", "_law_rate_here"] (qG q8) := ⟨rfl, rfl, rfl, by decide +kernel, rfl, by decide +kernel, by decide +kernel⟩
theorem sc__law_borders : qV ["_law_track_here", "_law_found", "_law_item"] ["_law_track_here"] (qG jR) := ⟨rfl, rfl, rfl, by decide +kernel, rfl, by decide +kernel, by decide +kernel⟩
theorem sc_law : qV ["_law_script", "_law_rate_here", "_law_other", "_law_track_here", "_law_rows", "_law_handed", "_law_turn", "_law_found", "_law_borders_here"] ["_law_script"] (qG kw) := ⟨rfl, rfl, rfl, by decide +kernel, rfl, by decide +kernel, by decide +kernel⟩
set_option genInjectivity false
set_option genSizeOf false
structure Ads where
  a_is_whole : Addr
  f_is_whole : FuncData
  a_common_divisor : Addr
  f_common_divisor : FuncData
  a_is_fraction : Addr
  f_is_fraction : FuncData
  a_fraction : Addr
  f_fraction : FuncData
  a_sum_of : Addr
  f_sum_of : FuncData
  a_times_of : Addr
  f_times_of : FuncData
  a_quotient : Addr
  f_quotient : FuncData
  a_is_before : Addr
  f_is_before : FuncData
  a_floor_of : Addr
  f_floor_of : FuncData
  a_rest_of : Addr
  f_rest_of : FuncData
  a_is_name : Addr
  f_is_name : FuncData
  a_has_clip_form : Addr
  f_has_clip_form : FuncData
  a_is_length : Addr
  f_is_length : FuncData
  a_has_nest_form : Addr
  f_has_nest_form : FuncData
  a_has_gap_or_mix_form : Addr
  f_has_gap_or_mix_form : FuncData
  a_moments_of : Addr
  f_moments_of : FuncData
  a_is_rate : Addr
  f_is_rate : FuncData
  a_check_rates : Addr
  f_check_rates : FuncData
  a_without_length : Addr
  f_without_length : FuncData
  a_row_at : Addr
  f_row_at : FuncData
  a_written : Addr
  f_written : FuncData
  a_holds_all : Addr
  f_holds_all : FuncData
  a_is_what : Addr
  f_is_what : FuncData
  a_has_row_form : Addr
  f_has_row_form : FuncData
  a_may_follow : Addr
  f_may_follow : FuncData
  a_lies_right : Addr
  f_lies_right : FuncData
  a_borders_read : Addr
  f_borders_read : FuncData
  a_read_back : Addr
  f_read_back : FuncData
  a__law_cell_at : Addr
  f__law_cell_at : FuncData
  a__law_drawn : Addr
  f__law_drawn : FuncData
  a__law_lowest : Addr
  f__law_lowest : FuncData
  a__law_part : Addr
  f__law_part : FuncData
  a__law_track : Addr
  f__law_track : FuncData
  a__law_rate : Addr
  f__law_rate : FuncData
  a__law_digits : Addr
  f__law_digits : FuncData
  a__law_item_of : Addr
  f__law_item_of : FuncData
  a__law_by_digits : Addr
  f__law_by_digits : FuncData
  a__law_rates : Addr
  f__law_rates : FuncData
  a__law_other_way : Addr
  f__law_other_way : FuncData
  a__law_borders : Addr
  f__law_borders : FuncData
  a_law : Addr
  f_law : FuncData
  k_CutError : Addr
  k_NoNumber : Addr
  k_NoList : Addr
  t_LETTERS : Tok
  t_LONGEST_NAME : Tok
  n_NOUGHT : Addr
  n_ONE : Addr
  n_END : Addr
  n_GAP : Addr
structure Tx (K : PySem.W.Frag) (mg : Str → Option Value) (a : Ads) : Prop where
  d_is_whole : L3.Def K mg "is_whole" j8 ["x"] a.a_is_whole a.f_is_whole
  d_common_divisor : L3.Def K mg "common_divisor" qt ["one", "other"] a.a_common_divisor a.f_common_divisor
  d_is_fraction : L3.Def K mg "is_fraction" ja ["x"] a.a_is_fraction a.f_is_fraction
  d_fraction : L3.Def K mg "fraction" j5 ["top", "bottom"] a.a_fraction a.f_fraction
  d_sum_of : L3.Def K mg "sum_of" xh ["one", "other"] a.a_sum_of a.f_sum_of
  d_times_of : L3.Def K mg "times_of" xA ["one", "other"] a.a_times_of a.f_times_of
  d_quotient : L3.Def K mg "quotient" j7 ["one", "other"] a.a_quotient a.f_quotient
  d_is_before : L3.Def K mg "is_before" jv ["one", "other"] a.a_is_before a.f_is_before
  d_floor_of : L3.Def K mg "floor_of" j6 ["one"] a.a_floor_of a.f_floor_of
  d_rest_of : L3.Def K mg "rest_of" xL ["one"] a.a_rest_of a.f_rest_of
  d_is_name : L3.Def K mg "is_name" xN ["thing"] a.a_is_name a.f_is_name
  d_has_clip_form : L3.Def K mg "has_clip_form" jG ["item"] a.a_has_clip_form a.f_has_clip_form
  d_is_length : L3.Def K mg "is_length" jw ["thing"] a.a_is_length a.f_is_length
  d_has_nest_form : L3.Def K mg "has_nest_form" jH ["item"] a.a_has_nest_form a.f_has_nest_form
  d_has_gap_or_mix_form : L3.Def K mg "has_gap_or_mix_form" qg ["item"] a.a_has_gap_or_mix_form a.f_has_gap_or_mix_form
  d_moments_of : L3.Def K mg "moments_of" jl ["item"] a.a_moments_of a.f_moments_of
  d_is_rate : L3.Def K mg "is_rate" xO ["thing"] a.a_is_rate a.f_is_rate
  d_check_rates : L3.Def K mg "check_rates" jc ["rate", "other"] a.a_check_rates a.f_check_rates
  d_without_length : L3.Def K mg "without_length" qv ["item"] a.a_without_length a.f_without_length
  d_row_at : L3.Def K mg "row_at" xj ["border", "by", "what"] a.a_row_at a.f_row_at
  d_written : L3.Def K mg "written" xR ["track", "rate", "other"] a.a_written a.f_written
  d_holds_all : L3.Def K mg "holds_all" jq ["track", "rate", "other"] a.a_holds_all a.f_holds_all
  d_is_what : L3.Def K mg "is_what" xK ["what"] a.a_is_what a.f_is_what
  d_has_row_form : L3.Def K mg "has_row_form" jP ["row"] a.a_has_row_form a.f_has_row_form
  d_may_follow : L3.Def K mg "may_follow" jh ["kind", "ahead"] a.a_may_follow a.f_may_follow
  d_lies_right : L3.Def K mg "lies_right" jg ["border", "borders", "ahead"] a.a_lies_right a.f_lies_right
  d_borders_read : L3.Def K mg "borders_read" jN ["rows", "rate", "other"] a.a_borders_read a.f_borders_read
  d_read_back : L3.Def K mg "read_back" jt ["rows", "rate", "other"] a.a_read_back a.f_read_back
  d__law_cell_at : L3.Def K mg "_law_cell_at" jM ["_law_script", "_law_k"] a.a__law_cell_at a.f__law_cell_at
  d__law_drawn : L3.Def K mg "_law_drawn" jk ["_law_number", "_law_many"] a.a__law_drawn a.f__law_drawn
  d__law_lowest : L3.Def K mg "_law_lowest" jZ ["_law_top", "_law_bottom"] a.a__law_lowest a.f__law_lowest
  d__law_part : L3.Def K mg "_law_part" ju ["_law_x", "_law_cell"] a.a__law_part a.f__law_part
  d__law_track : L3.Def K mg "_law_track" jj ["_law_cells"] a.a__law_track a.f__law_track
  d__law_rate : L3.Def K mg "_law_rate" jr ["_law_x"] a.a__law_rate a.f__law_rate
  d__law_digits : L3.Def K mg "_law_digits" jb ["_law_number", "_law_sizes"] a.a__law_digits a.f__law_digits
  d__law_item_of : L3.Def K mg "_law_item_of" jQ ["_law_digits_here"] a.a__law_item_of a.f__law_item_of
  d__law_by_digits : L3.Def K mg "_law_by_digits" q9 ["_law_number"] a.a__law_by_digits a.f__law_by_digits
  d__law_rates : L3.Def K mg "_law_rates" ji ["_law_script"] a.a__law_rates a.f__law_rates
  d__law_other_way : L3.Def K mg "_law_other_way" q8 ["_law_rows", "_law_rate_here"] a.a__law_other_way a.f__law_other_way
  d__law_borders : L3.Def K mg "_law_borders" jR ["_law_track_here"] a.a__law_borders a.f__law_borders
  d_law : L3.Def K mg "law" kw ["_law_script"] a.a_law a.f_law
  c_CutError : mg "CutError" = some (.ref a.k_CutError)
  c_NoNumber : mg "NoNumber" = some (.ref a.k_NoNumber)
  c_NoList : mg "NoList" = some (.ref a.k_NoList)
  b_isinstance : mg "isinstance" = none
  b_int : mg "int" = none
  b_bool : mg "bool" = none
  b_abs : mg "abs" = none
  b_tuple : mg "tuple" = none
  b_len : mg "len" = none
  b_all : mg "all" = none
  b_str : mg "str" = none
  b_enumerate : mg "enumerate" = none
  b_range : mg "range" = none
  b_list : mg "list" = none
  g_LETTERS : mg "LETTERS" = some (.str "abcdefghijklmnopqrstuvwxyz" a.t_LETTERS)
  g_LONGEST_NAME : mg "LONGEST_NAME" = some (.int 8 a.t_LONGEST_NAME)
  g_NOUGHT : mg "NOUGHT" = some (.ref a.n_NOUGHT)
  sq_NOUGHT : ∀ H, SqT K H a.n_NOUGHT [.int 0, .int 1]
  g_ONE : mg "ONE" = some (.ref a.n_ONE)
  sq_ONE : ∀ H, SqT K H a.n_ONE [.int 1, .int 1]
  g_END : mg "END" = some (.ref a.n_END)
  sq_END : ∀ H, SqT K H a.n_END [.str "end"]
  g_GAP : mg "GAP" = some (.ref a.n_GAP)
  sq_GAP : ∀ H, SqT K H a.n_GAP [.str "gap"]
  x_NoNumber : L3.OwnX K a.k_NoNumber
def qC3 (K : PySem.W.Frag) : Sp := fun vs H Q _ => ∃ (a : Addr) (ns : List Int), vs = [.ref a] ∧ SqL K H a (ns.map V.int) ∧ ns.length ≤ 63 ∧ ∀ H', Q (.bl true) H'
def qCp (H : Hp) (Q : VK) (p q : Int) : Prop := ∀ z, H z = none → Q (.ref z) (upd H z (.tup [.int p, .int q]))
theorem xJ {CX : CXT} {P : Program} {w : World} {K : PySem.W.Frag} {mg : Str → Option Value} {base : Heap} {ns : List Str} {n : Str} {sc : Scope} {ad : Addr} {cdv : Value} {A : Around} {outer : List Env} {s : Shared} {H : Hp} {E : XK} : (qCo CX P w K mg base ns n sc ad cdv A outer s H E).K = K := rfl
theorem jD {CX : CXT} {P : Program} {w : World} {K : PySem.W.Frag} {mg : Str → Option Value} {base : Heap} {ns : List Str} {n : Str} {sc : Scope} {ad : Addr} {cdv : Value} {A : Around} {outer : List Env} {s : Shared} {H : Hp} {E : XK} : (qCo CX P w K mg base ns n sc ad cdv A outer s H E).nox.K = K := rfl
theorem sL0 : (0 : Nat) ≤ sizeLine := by decide
theorem sL1 : (1 : Nat) ≤ sizeLine := by decide
theorem sL2 : (2 : Nat) ≤ sizeLine := by decide
theorem sL3 : (3 : Nat) ≤ sizeLine := by decide
theorem sL4 : (4 : Nat) ≤ sizeLine := by decide
theorem sL5 : (5 : Nat) ≤ sizeLine := by decide
theorem glt {α : Type} {xs : List α} {i : Nat} {x : α} (h : xs[i]? = some x) : i < xs.length := (List.getElem?_eq_some_iff.mp h).1
theorem xT {K : PySem.W.Frag} {σ : St} {H : Hp} {p : Addr} {xs : List V} {i : Int} {v : V} {Q : VK} {j : Nat} (e : σ[j]? = some (some (.ref p))) (h : SqT K H p xs) (a : atI xs i = some v) (q : Q v H) : tOp (qG6 K) (qGu j) (tC (.int i)) σ H Q := ⟨.ref p, e, p, xs, i, v, rfl, rfl, h, a, q⟩
section
variable {P : Program} {w : World} {K : W.Frag} {mg : Str → Option Value} {base : Heap} {a : Ads}
def wY : Sp := fun vs H Q _ => ∃ i : Int, vs = [.int i] ∧ Q (.bl true) H
theorem xC (T : Tx K mg a) : FnOk P w K mg base CX0 1 a.a_is_whole a.f_is_whole ["x"] wY := by
  refine T.d_is_whole.F.ok kP (fun vs H Q E h => ?_) (fun cdv A outer s H vs Q E hr h => ?_)
  · obtain ⟨i, rfl, _⟩ := h
    rfl
  obtain ⟨i, rfl, q⟩ := h
  refine ⟨_, (qH (qO (xq (qZ jB rfl T.b_isinstance rfl (qA (pv 0) (qA (zg rfl T.b_int rfl) qE))) (xf (qCj (qZ jB rfl T.b_isinstance rfl (qA (pv 0) (qA (zg rfl T.b_bool rfl) qE)))))))), ?_⟩
  try dsimp only [xJ, jD]
  refine ⟨_, rfl, _, _, _, true, rfl, .int i, ⟨_, .inl ⟨rfl, rfl⟩⟩, true, rfl, j9 ?_⟩
  refine ⟨_, rfl, _, _, _, false, rfl, .int i, ⟨_, .inl ⟨rfl, by kernel_rfl⟩⟩, false, rfl, ?_⟩
  exact q
def zI : Sp := fun vs H Q _ => ∃ i j : Int, vs = [.int i, .int j] ∧ Q (.int ((Int.gcd i j : Nat) : Int)) H
theorem xQ (T : Tx K mg a) : FnOk P w K mg base CX0 1 a.a_common_divisor a.f_common_divisor ["one", "other"] zI := by
  refine T.d_common_divisor.F.ok sc_common_divisor (fun vs H Q E h => ?_) (fun cdv A outer s H vs Q E hr h => ?_)
  · obtain ⟨i, j, rfl, _⟩ := h
    rfl
  obtain ⟨i, j, rfl, q⟩ := h
  refine ⟨_, (qF (qAh PassesOwn.never (qJ xb (pv 1) qB (qM _)) (qF (qX (i := 2) sc_common_divisor.nd rfl (Or.inl rfl) (qQ qj (pv 0) (pv 1)))
      (qF (qX (i := 0) sc_common_divisor.nd rfl (Or.inl rfl) (pv 1))
      (qH (qX (i := 1) sc_common_divisor.nd rfl (Or.inl rfl) (pv 2))))))
      (qH (qO (qZ vW rfl T.b_abs rfl (qA (pv 0) qE))))), ?_⟩
  try dsimp only [xJ, jD]
  refine qAd (fun σ H' => H' = H ∧ ∃ (x y : Int) (v : Option V), σ = [some (.int x), some (.int y), v] ∧ Int.gcd x y = Int.gcd i j)
    (fun σ _ => match σ with | [_, some (.int y), _] => y.natAbs | _ => 0) ⟨rfl, i, j, none, rfl, rfl⟩ ?_ ?_
  · rintro σ H1 ⟨rfl, x, y, v, rfl, e⟩
    refine ⟨_, rfl, rfl, _, rfl, ?_⟩
    refine zH (fun c => ?_) (fun c => ?_)
    · have hy : y ≠ 0 := by simpa using c
      refine ⟨_, rfl, _, rfl, _, _, rfl, rfl, hy, _, rfl, _, rfl, ⟨rfl, y, x.fmod y, _, rfl, ?_⟩, ?_⟩
      · rw [zz]; exact e
      · exact qB9 x y hy
    · have hy : y = 0 := by simpa using c
      subst hy
      refine ⟨_, rfl, x, rfl, ?_⟩
      have e2 : (if x < 0 then -x else x) = ((Int.gcd i j : Nat) : Int) := by
        rw [← e, Int.gcd_zero_right]
        split <;> omega
      rw [e2]
      exact q
  · rintro σ H1 Q1 Q2 hq h
    obtain ⟨v, e, s, k, hk, z⟩ := h
    exact ⟨v, e, s, k, hk, hq _ _ z⟩
def wW : Sp := fun vs H Q _ => ∃ t b : Int, vs = [.int t, .int b] ∧ b ≠ 0 ∧ b.natAbs < 2 ^ 8000 ∧ qCp H Q (jO t b) (qm t b)
theorem qAc {t b : Int} (h : b ≠ 0) (hb : b.natAbs < 2 ^ 8000) : CDivB t (sg t b) ∧ CDivB b (sg t b) := by
  have h1 := qG4 (t := t) h
  have h2 : (sg t b).natAbs < 2 ^ 8000 := by
    rw [qAo]
    exact Nat.lt_of_le_of_lt (Nat.le_of_dvd (by omega) (Int.gcd_dvd_natAbs_right ..)) hb
  exact ⟨⟨h1, h2⟩, ⟨h1, h2⟩⟩
theorem xB (T : Tx K mg a) : FnOk P w K mg base CX0 2 a.a_fraction a.f_fraction ["top", "bottom"] wW := by
  refine T.d_fraction.F.ok sc_fraction (fun vs H Q E h => ?_) (fun cdv A outer s H vs Q E hr h => ?_)
  · obtain ⟨t, b, rfl, _⟩ := h
    rfl
  obtain ⟨t, b, rfl, hb, hs, q⟩ := h
  refine ⟨_, (qF (qp (PW.pt (j4 (jS (jK (qI T.d_is_whole (xC T) hr rfl (qA (pv 0) qE)))) (jm (jS (jK (qI T.d_is_whole (xC T) hr rfl (qA (pv 1) qE))))))) xM qU)
      (qF (qp (qJ j0 (pv 1) qB (qM _)) xM qU)
      (qF (qX (i := 2) sc_fraction.nd rfl (Or.inl rfl) (qI T.d_common_divisor (xQ T) hr rfl (qA (pv 0) (qA (pv 1) qE))))
      (qF (qp (qJ qA2 (pv 1) qB (qM _)) (qH (qX (i := 2) sc_fraction.nd rfl (Or.inl rfl) (xX jp (pv 2)))) qU)
      (qH (qO (qi (qA (qQ qk (pv 0) (pv 2)) (qA (qQ qk (pv 1) (pv 2)) qE))))))))), ?_⟩
  try dsimp only [xJ, jD]
  refine ⟨_, rfl, t, rfl, true, rfl, jE ?_⟩
  refine ⟨_, rfl, b, rfl, true, rfl, jE ?_⟩
  refine ⟨_, rfl, rfl, _, rfl, ?_⟩
  refine zH (fun c => absurd (by simpa using c) hb) (fun _ => ?_)
  refine ⟨_, rfl, _, rfl, t, b, rfl, ?_⟩
  refine ⟨_, rfl, _, _, rfl, rfl, _, rfl, ?_⟩
  obtain ⟨d1, d2⟩ := qAc (t := t) hb hs
  refine zH (fun c => ?_) (fun c => ?_)
  · have c' : b < 0 := by simpa using c
    have e : -((Int.gcd t b : Nat) : Int) = sg t b := by unfold sg; rw [if_pos c']
    have q' : qCp H Q (t.fdiv (-((Int.gcd t b : Nat) : Int))) (b.fdiv (-((Int.gcd t b : Nat) : Int))) := by rw [e]; exact q
    exact ⟨_, rfl, _, rfl, _, rfl, _, rfl, _, _, rfl, rfl, (by rw [e]; exact d1), _, rfl, _, rfl, _, _, rfl, rfl, (by rw [e]; exact d2), sL2, q'⟩
  · have c' : ¬ b < 0 := by simpa using c
    have e : ((Int.gcd t b : Nat) : Int) = sg t b := by unfold sg; rw [if_neg c']
    have q' : qCp H Q (t.fdiv ((Int.gcd t b : Nat) : Int)) (b.fdiv ((Int.gcd t b : Nat) : Int)) := by rw [e]; exact q
    exact ⟨_, rfl, _, rfl, _, _, rfl, rfl, (by rw [e]; exact d1), _, rfl, _, rfl, _, _, rfl, rfl, (by rw [e]; exact d2), sL2, q'⟩
def Pr (K : W.Frag) (H : Hp) (v : V) (p q : Int) : Prop := ∃ z, v = .ref z ∧ SqT K H z [.int p, .int q]
theorem Pr.same {H H' : Hp} {v : V} {p q : Int} (e : Same H H') (h : Pr K H v p q) : Pr K H' v p q := let ⟨z, h1, h2⟩ := h; ⟨z, h1, L3.Same.tup e h2⟩
def Sm (i : Int) : Prop := i.natAbs < 2 ^ 3000
theorem Sm.mul {i j : Int} (h1 : Sm i) (h2 : Sm j) : CMulB i j := by
  unfold Sm at h1 h2
  have : (2 : Nat) ^ 3000 ≤ 2 ^ 60000 := Nat.pow_le_pow_right (by decide) (by decide)
  exact .inr ⟨by omega, by omega⟩
theorem Sm.prod {i j : Int} (h1 : Sm i) (h2 : Sm j) : (i * j).natAbs < 2 ^ 8000 := by
  unfold Sm at h1 h2
  rw [Int.natAbs_mul]
  have h3 : i.natAbs * j.natAbs < 2 ^ 3000 * 2 ^ 3000 := Nat.mul_lt_mul'' h1 h2
  rw [← Nat.pow_add] at h3
  exact Nat.lt_of_lt_of_le h3 (Nat.pow_le_pow_right (by decide) (by decide))
theorem at0 {x y : V} : atI [x, y] 0 = some x := rfl
theorem at1 {x y : V} : atI [x, y] 1 = some y := rfl
def qCc (K : W.Frag) : Sp := fun vs H Q _ => ∃ (x y : V) (p q r s : Int), vs = [x, y] ∧ Pr K H x p q ∧ Pr K H y r s ∧ q ≠ 0 ∧ s ≠ 0 ∧ Sm p ∧ Sm q ∧ Sm r ∧ Sm s ∧ qCp H Q (jO (p * s + r * q) (q * s)) (qm (p * s + r * q) (q * s))
theorem qB2 (T : Tx K mg a) : FnOk P w K mg base CX0 3 a.a_sum_of a.f_sum_of ["one", "other"] (qCc K) := by
  refine T.d_sum_of.F.ok qB7 (fun vs H Q E h => ?_) (fun cdv A outer s H vs Q E hr h => ?_)
  · obtain ⟨x, y, p, q, r, s, rfl, _⟩ := h
    rfl
  obtain ⟨x, y, p, q, r, s', rfl, ⟨z1, rfl, h1⟩, ⟨z2, rfl, h2⟩, hq, hs, bp, bq, br, bs, k⟩ := h
  refine ⟨_, (qH (qO (qI T.d_fraction (xB T) hr rfl (qA (qQ jF (qQ jV (qP qN (pv 0) qB (fun _ _ => rfl)) (qP qN (pv 1) qB (fun _ _ => rfl))) (qQ jV (qP qN (pv 1) qB (fun _ _ => rfl)) (qP qN (pv 0) qB (fun _ _ => rfl)))) (qA (qQ jV (qP qN (pv 0) qB (fun _ _ => rfl)) (qP qN (pv 1) qB (fun _ _ => rfl))) qE))))), ?_⟩
  try dsimp only [xJ, jD]
  refine (xT rfl h1 at0 (xT rfl h2 at1 ⟨_, _, rfl, rfl, bp.mul bs, ?_⟩))
  refine (xT rfl h2 at0 (xT rfl h1 at1 ⟨_, _, rfl, rfl, br.mul bq, _, _, rfl, rfl, ?_⟩))
  refine (xT rfl h1 at1 (xT rfl h2 at1 ⟨_, _, rfl, rfl, bq.mul bs, ?_⟩))
  exact ⟨_, _, rfl, Int.mul_ne_zero hq hs, bq.prod bs, k⟩
def wk (K : W.Frag) : Sp := fun vs H Q _ => ∃ (x : V) (p q : Int), vs = [x] ∧ Pr K H x p q ∧ q ≠ 0 ∧ q.natAbs < 2 ^ 8000 ∧ Q (.int (p.fdiv q)) H
theorem xv (T : Tx K mg a) : FnOk P w K mg base CX0 1 a.a_floor_of a.f_floor_of ["one"] (wk K) := by
  refine T.d_floor_of.F.ok wn (fun vs H Q E h => ?_) (fun cdv A outer s H vs Q E hr h => ?_)
  · obtain ⟨x, p, q, rfl, _⟩ := h
    rfl
  obtain ⟨x, p, q, rfl, ⟨z1, rfl, h1⟩, hq, bq, k⟩ := h
  refine ⟨_, (qH (qO (qQ qk (qP qN (pv 0) qB (fun _ _ => rfl)) (qP qN (pv 0) qB (fun _ _ => rfl))))), ?_⟩
  try dsimp only [xJ, jD]
  exact (xT rfl h1 at0 (xT rfl h1 at1 ⟨_, _, rfl, rfl, ⟨hq, bq⟩, k⟩))
theorem nz {j : Int} (h : j ≠ 0 := by decide) : j ≠ 0 := h
theorem cdB {i j : Int} (h0 : j ≠ 0) (h : j.natAbs < 18446744073709551616) : CDivB i j :=
  ⟨h0, Nat.lt_of_lt_of_le h (Nat.le_trans (by decide : 18446744073709551616 ≤ 2 ^ 64) (Nat.pow_le_pow_right (by decide) (by decide)))⟩
theorem cmR {i j : Int} (h1 : -(18446744073709551616 : Int) < j) (h2 : j < 18446744073709551616) : CMulB i j := .inl (.inr ⟨h1, h2⟩)
theorem cmL {i j : Int} (h1 : -(18446744073709551616 : Int) < i) (h2 : i < 18446744073709551616) : CMulB i j := .inl (.inl ⟨h1, h2⟩)
theorem at3 {x y z : V} {i : Int} (h0 : 0 ≤ i) (h1 : i < 3) : ∃ v, atI [x, y, z] i = some v ∧ (v = x ∨ v = y ∨ v = z) := by
  have : i = 0 ∨ i = 1 ∨ i = 2 := by omega
  rcases this with rfl | rfl | rfl
  · exact ⟨x, rfl, .inl rfl⟩
  · exact ⟨y, rfl, .inr (.inl rfl)⟩
  · exact ⟨z, rfl, .inr (.inr rfl)⟩
theorem at4 {x y z u : V} {i : Int} (h0 : 0 ≤ i) (h1 : i < 4) : ∃ v, atI [x, y, z, u] i = some v ∧ (v = x ∨ v = y ∨ v = z ∨ v = u) := by
  have : i = 0 ∨ i = 1 ∨ i = 2 ∨ i = 3 := by omega
  rcases this with rfl | rfl | rfl | rfl
  · exact ⟨x, rfl, .inl rfl⟩
  · exact ⟨y, rfl, .inr (.inl rfl)⟩
  · exact ⟨z, rfl, .inr (.inr (.inl rfl))⟩
  · exact ⟨u, rfl, .inr (.inr (.inr rfl))⟩
theorem fm (i : Int) {j : Int} (h : 0 < j) : 0 ≤ i.fmod j ∧ i.fmod j < j := ⟨Int.fmod_nonneg_of_pos i h, Int.fmod_lt_of_pos i h⟩
theorem cpw {n : Nat} (h : n ≤ 1000000) : qHa 10 (n : Int) := ⟨by omega, by omega, by decide⟩
def Good (n : Nat) (p q : Int) : Prop := 0 < q ∧ Int.gcd p q = 1 ∧ p.natAbs < 2 ^ n ∧ q.natAbs < 2 ^ n
theorem Good.mono {n m : Nat} {p q : Int} (h : Good n p q) (l : n ≤ m) : Good m p q := ⟨h.1, h.2.1, Nat.lt_of_lt_of_le h.2.2.1 (Nat.pow_le_pow_right (by decide) l), Nat.lt_of_lt_of_le h.2.2.2 (Nat.pow_le_pow_right (by decide) l)⟩
theorem Sm.of200 {i : Int} (h : i.natAbs < 2 ^ 200) : Sm i := Nat.lt_of_lt_of_le h (Nat.pow_le_pow_right (by decide) (by decide))
theorem qAf {n : Nat} {t b : Int} (hb : 0 < b) (h1 : t.natAbs < 2 ^ n) (h2 : b.natAbs < 2 ^ n) : Good n (jO t b) (qm t b) :=
  ⟨jX (by omega), vJ (by omega), Nat.lt_of_le_of_lt (jo (by omega)) h1, Nat.lt_of_le_of_lt (jf (by omega)) h2⟩
theorem qFa {x y X Y : Int} (h0 : 0 ≤ x) (h1 : x < X) (h2 : 0 ≤ y) (h3 : y < Y) : x * y < X * Y :=
  Int.lt_of_le_of_lt (Int.mul_le_mul_of_nonneg_left (Int.le_of_lt h3) h0) (Int.mul_lt_mul_of_pos_right h1 (by omega))
def wl (K : W.Frag) : Sp := fun vs H Q _ => ∃ (x y : V) (p q r s : Int), vs = [x, y] ∧ Pr K H x p q ∧ Pr K H y r s ∧ q ≠ 0 ∧ s ≠ 0 ∧ Sm p ∧ Sm q ∧ Sm r ∧ Sm s ∧ qCp H Q (jO (p * r) (q * s)) (qm (p * r) (q * s))
theorem kE (T : Tx K mg a) : FnOk P w K mg base CX0 3 a.a_times_of a.f_times_of ["one", "other"] (wl K) := by
  refine T.d_times_of.F.ok wu (fun vs H Q E h => ?_) (fun cdv A outer s H vs Q E hr h => ?_)
  · obtain ⟨x, y, p, q, r, s, rfl, _⟩ := h
    rfl
  obtain ⟨x, y, p, q, r, s', rfl, ⟨z1, rfl, h1⟩, ⟨z2, rfl, h2⟩, hq, hs, bp, bq, br, bs, k⟩ := h
  refine ⟨_, (qH (qO (qI T.d_fraction (xB T) hr rfl (qA (qQ jV (qP qN (pv 0) qB (fun _ _ => rfl)) (qP qN (pv 1) qB (fun _ _ => rfl))) (qA (qQ jV (qP qN (pv 0) qB (fun _ _ => rfl)) (qP qN (pv 1) qB (fun _ _ => rfl))) qE))))), ?_⟩
  try dsimp only [xJ, jD]
  refine (xT rfl h1 at0 (xT rfl h2 at0 ⟨_, _, rfl, rfl, bp.mul br, ?_⟩))
  refine (xT rfl h1 at1 (xT rfl h2 at1 ⟨_, _, rfl, rfl, bq.mul bs, ?_⟩))
  exact ⟨_, _, rfl, Int.mul_ne_zero hq hs, bq.prod bs, k⟩
def we (K : W.Frag) : Sp := fun vs H Q _ => ∃ (x y : V) (p q r s : Int), vs = [x, y] ∧ Pr K H x p q ∧ Pr K H y r s ∧ q ≠ 0 ∧ r ≠ 0 ∧ Sm p ∧ Sm q ∧ Sm r ∧ Sm s ∧ qCp H Q (jO (p * s) (q * r)) (qm (p * s) (q * r))
theorem kW (T : Tx K mg a) : FnOk P w K mg base CX0 3 a.a_quotient a.f_quotient ["one", "other"] (we K) := by
  refine T.d_quotient.F.ok wm (fun vs H Q E h => ?_) (fun cdv A outer s H vs Q E hr h => ?_)
  · obtain ⟨x, y, p, q, r, s, rfl, _⟩ := h
    rfl
  obtain ⟨x, y, p, q, r, s', rfl, ⟨z1, rfl, h1⟩, ⟨z2, rfl, h2⟩, hq, hr', bp, bq, br, bs, k⟩ := h
  refine ⟨_, (qH (qO (qI T.d_fraction (xB T) hr rfl (qA (qQ jV (qP qN (pv 0) qB (fun _ _ => rfl)) (qP qN (pv 1) qB (fun _ _ => rfl))) (qA (qQ jV (qP qN (pv 0) qB (fun _ _ => rfl)) (qP qN (pv 1) qB (fun _ _ => rfl))) qE))))), ?_⟩
  try dsimp only [xJ, jD]
  refine (xT rfl h1 at0 (xT rfl h2 at1 ⟨_, _, rfl, rfl, bp.mul bs, ?_⟩))
  refine (xT rfl h1 at1 (xT rfl h2 at0 ⟨_, _, rfl, rfl, bq.mul br, ?_⟩))
  exact ⟨_, _, rfl, Int.mul_ne_zero hq hr', bq.prod br, k⟩
inductive NoW (H : Hp) : V → Prop where
  | non : NoW H .non
  | bl (b : Bool) : NoW H (.bl b)
  | str (z : Str) : NoW H (.str z)
  | lst {a : Addr} {xs : List V} (e : H a = some (.lst xs)) : NoW H (.ref a)
  | tup {a : Addr} {xs : List V} (e : H a = some (.tup xs)) : NoW H (.ref a)
theorem NoW.same {H H' : Hp} {x : V} (s : Same H H') : NoW H x → NoW H' x
  | .non => .non
  | .bl b => .bl b
  | .str z => .str z
  | .lst e => .lst (s _ _ e)
  | .tup e => .tup (s _ _ e)
def WhB (H : Hp) (x : V) (b : Bool) : Prop := (∃ i : Int, x = .int i ∧ b = true) ∨ (NoW H x ∧ b = false)
theorem WhB.int {H : Hp} (i : Int) : WhB H (.int i) true := .inl ⟨i, rfl, rfl⟩
theorem WhB.no {H : Hp} {x : V} (h : NoW H x) : WhB H x false := .inr ⟨h, rfl⟩
theorem WhB.ty {H : Hp} {x : V} {b : Bool} (h : WhB H x b) : ∃ t i c, vR K H x t ∧ W.kitOne K t (.type "int") = some i ∧ W.kitOne K t (.type "bool") = some c ∧ b = (i && !c) := by
  rcases h with ⟨i, rfl, rfl⟩ | ⟨h, rfl⟩
  · exact ⟨_, true, false, .int i, by kernel_rfl, by kernel_rfl, rfl⟩
  · cases h with
    | non => exact ⟨_, false, false, .non, by kernel_rfl, by kernel_rfl, rfl⟩
    | bl b => exact ⟨_, true, true, .bl b, by kernel_rfl, by kernel_rfl, rfl⟩
    | str z => exact ⟨_, false, false, .str z, by kernel_rfl, by kernel_rfl, rfl⟩
    | lst e => exact ⟨_, false, false, .lst e, by kernel_rfl, by kernel_rfl, rfl⟩
    | tup e => exact ⟨_, false, false, .tup e, by kernel_rfl, by kernel_rfl, rfl⟩
def vH : Sp := fun vs H Q _ => ∃ (x : V) (b : Bool), vs = [x] ∧ WhB H x b ∧ Q (.bl b) H
theorem xU (T : Tx K mg a) : FnOk P w K mg base CX0 1 a.a_is_whole a.f_is_whole ["x"] vH := by
  refine T.d_is_whole.F.ok kP (fun vs H Q E h => ?_) (fun cdv A outer s H vs Q E hr h => ?_)
  · obtain ⟨x, b, rfl, _⟩ := h
    rfl
  obtain ⟨x, b, rfl, hx, q⟩ := h
  refine ⟨_, (qH (qO (xq (qZ jB rfl T.b_isinstance rfl (qA (pv 0) (qA (zg rfl T.b_int rfl) qE))) (xf (qCj (qZ jB rfl T.b_isinstance rfl (qA (pv 0) (qA (zg rfl T.b_bool rfl) qE)))))))), ?_⟩
  try dsimp only [xJ, jD]
  obtain ⟨t, i, c, ty, e1, e2, rfl⟩ := hx.ty (K := K)
  refine ⟨_, rfl, _, _, _, i, rfl, ty, ⟨_, .inl ⟨rfl, e1⟩⟩, i, rfl, ?_⟩
  cases i with
  | false => exact jE q
  | true => exact j9 ⟨_, rfl, _, _, _, c, rfl, ty, ⟨_, .inl ⟨rfl, e2⟩⟩, c, rfl, q⟩
inductive FrB (K : W.Frag) (H : Hp) : V → Bool → Prop where
  | no {x : V} {t : Value} (ty : vR K H x t) (e : W.kitOne K t (.type "tuple") = some false) : FrB K H x false
  | len {z : Addr} {xs : List V} (e : H z = some (.tup xs)) (h : xs.length ≠ 2) : FrB K H (.ref z) false
  | one {z : Addr} {x y : V} (e : H z = some (.tup [x, y])) (h : NoW H x) : FrB K H (.ref z) false
  | two {z : Addr} {i : Int} {y : V} (e : H z = some (.tup [.int i, y])) (h : NoW H y) : FrB K H (.ref z) false
  | nums {z : Addr} {p q : Int} (e : H z = some (.tup [.int p, .int q])) : FrB K H (.ref z) (decide (1 ≤ q) && decide (Int.gcd p q = 1))
def kc (K : W.Frag) : Sp := fun vs H Q _ => ∃ (x : V) (b : Bool), vs = [x] ∧ FrB K H x b ∧ Q (.bl b) H
theorem jx (T : Tx K mg a) : FnOk P w K mg base CX0 2 a.a_is_fraction a.f_is_fraction ["x"] (kc K) := by
  refine T.d_is_fraction.F.ok ke (fun vs H Q E h => ?_) (fun cdv A outer s H vs Q E hr h => ?_)
  · obtain ⟨x, b, rfl, _⟩ := h
    rfl
  obtain ⟨x, b, rfl, hx, k⟩ := h
  refine ⟨_, (qF (qp (PW.pt (j4 (jS (jK (qZ jB rfl T.b_isinstance rfl (qA (pv 0) (qA (zg rfl T.b_tuple rfl) qE))))) (jm (qJ xb (qZ jI rfl T.b_len rfl (qA (pv 0) qE)) qB (qM _))))) (qH (qO xW)) qU)
      (qF (qp (PW.pt (j4 (jS (jK (qI T.d_is_whole (xU T) hr rfl (qA (qP qN (pv 0) qB (fun _ _ => rfl)) qE)))) (jm (jS (jK (qI T.d_is_whole (xU T) hr rfl (qA (qP qN (pv 0) qB (fun _ _ => rfl)) qE))))))) (qH (qO xW)) qU)
      (qH (qO (xq (jW qCw (qP qN (pv 0) qB (fun _ _ => rfl)) qB (qM _)) (xf (jW j0 (qI T.d_common_divisor (xQ T) hr rfl (qA (qP qN (pv 0) qB (fun _ _ => rfl)) (qA (qP qN (pv 0) qB (fun _ _ => rfl)) qE))) qB (qM _)))))))), ?_⟩
  try dsimp only [xJ, jD]
  cases hx with
  | no ty e => exact ⟨_, rfl, _, _, _, false, rfl, ty, ⟨_, .inl ⟨rfl, e⟩⟩, false, rfl, j9 (j9 k)⟩
  | @len z xs e h =>
    refine ⟨_, rfl, _, _, _, true, rfl, .tup e, ⟨_, .inl ⟨rfl, by kernel_rfl⟩⟩, true, rfl, jE ?_⟩
    refine ⟨_, rfl, _, _, rfl, .inr (SqT.of e), rfl, _, rfl, ?_⟩
    have d : (!decide (V.int (xs.length : Int) = V.int 2)) = true := by
      have : ¬ (V.int (xs.length : Int) = V.int 2) := fun z => h (by injection z with z; omega)
      simp [this]
    rw [d]
    exact j9 k
  | @one z x y e h =>
    refine ⟨_, rfl, _, _, _, true, rfl, .tup e, ⟨_, .inl ⟨rfl, by kernel_rfl⟩⟩, true, rfl, jE ?_⟩
    refine ⟨_, rfl, _, _, rfl, .inr (SqT.of e), rfl, _, rfl, jE ?_⟩
    exact (xT rfl (SqT.of e) at0 ⟨x, false, rfl, .no h, false, rfl, j9 (j9 k)⟩)
  | @two z i y e h =>
    refine ⟨_, rfl, _, _, _, true, rfl, .tup e, ⟨_, .inl ⟨rfl, by kernel_rfl⟩⟩, true, rfl, jE ?_⟩
    refine ⟨_, rfl, _, _, rfl, .inr (SqT.of e), rfl, _, rfl, jE ?_⟩
    refine (xT rfl (SqT.of e) at0 ⟨_, true, rfl, .int i, true, rfl, jE ?_⟩)
    exact (xT rfl (SqT.of e) at1 ⟨y, false, rfl, .no h, false, rfl, j9 k⟩)
  | @nums z p q e =>
    refine ⟨_, rfl, _, _, _, true, rfl, .tup e, ⟨_, .inl ⟨rfl, by kernel_rfl⟩⟩, true, rfl, jE ?_⟩
    refine ⟨_, rfl, _, _, rfl, .inr (SqT.of e), rfl, _, rfl, jE ?_⟩
    refine (xT rfl (SqT.of e) at0 ⟨_, true, rfl, .int p, true, rfl, jE ?_⟩)
    refine (xT rfl (SqT.of e) at1 ⟨_, true, rfl, .int q, true, rfl, jE ?_⟩)
    refine (xT rfl (SqT.of e) at1 ⟨_, _, rfl, rfl, decide (1 ≤ q), rfl, ?_⟩)
    by_cases hq : 1 ≤ q
    · rw [decide_eq_true hq] at k ⊢
      refine j9 (xT rfl (SqT.of e) at0 (xT rfl (SqT.of e) at1 ⟨p, q, rfl, rfl, ?_⟩))
      have d : decide (V.int ((Int.gcd p q : Nat) : Int) = V.int 1) = (true && decide (Int.gcd p q = 1)) := by
        rw [Bool.true_and, Bool.eq_iff_iff, decide_eq_true_eq, decide_eq_true_eq]
        constructor
        · intro z; injection z with z; omega
        · intro z; rw [z]; rfl
      rw [d]
      exact k
    · rw [decide_eq_false hq] at k ⊢
      exact jE k
def vv (K : W.Frag) : Sp := fun vs H Q _ => ∃ (x y : V) (p q r s : Int), vs = [x, y] ∧ Pr K H x p q ∧ Pr K H y r s ∧ Sm p ∧ Sm q ∧ Sm r ∧ Sm s ∧ Q (.bl (decide (p * s < r * q))) H
theorem xc (T : Tx K mg a) : FnOk P w K mg base CX0 1 a.a_is_before a.f_is_before ["one", "other"] (vv K) := by
  refine T.d_is_before.F.ok v6 (fun vs H Q E h => ?_) (fun cdv A outer s H vs Q E hr h => ?_)
  · obtain ⟨x, y, p, q, r, s, rfl, _⟩ := h
    rfl
  obtain ⟨x, y, p, q, r, s', rfl, ⟨z1, rfl, h1⟩, ⟨z2, rfl, h2⟩, bp, bq, br, bs, k⟩ := h
  refine ⟨_, (qH (qO (jW qA2 (qQ jV (qP qN (pv 0) qB (fun _ _ => rfl)) (qP qN (pv 1) qB (fun _ _ => rfl))) (qQ jV (qP qN (pv 1) qB (fun _ _ => rfl)) (qP qN (pv 0) qB (fun _ _ => rfl))) (qM _)))), ?_⟩
  try dsimp only [xJ, jD]
  refine (xT rfl h1 at0 (xT rfl h2 at1 ⟨_, _, rfl, rfl, bp.mul bs, ?_⟩))
  exact (xT rfl h2 at0 (xT rfl h1 at1 ⟨_, _, rfl, rfl, br.mul bq, _, _, rfl, rfl, k⟩))
def qAu (K : W.Frag) : Sp := fun vs H Q _ => ∃ (x : V) (p q : Int), vs = [x] ∧ Pr K H x p q ∧ q ≠ 0 ∧ qCp H Q (p.fmod q) q
theorem kg (T : Tx K mg a) : FnOk P w K mg base CX0 1 a.a_rest_of a.f_rest_of ["one"] (qAu K) := by
  refine T.d_rest_of.F.ok qA3 (fun vs H Q E h => ?_) (fun cdv A outer s H vs Q E hr h => ?_)
  · obtain ⟨x, p, q, rfl, _⟩ := h
    rfl
  obtain ⟨x, p, q, rfl, ⟨z1, rfl, h1⟩, hq, k⟩ := h
  refine ⟨_, (qH (qO (qi (qA (qQ qj (qP qN (pv 0) qB (fun _ _ => rfl)) (qP qN (pv 0) qB (fun _ _ => rfl))) (qA (qP qN (pv 0) qB (fun _ _ => rfl)) qE))))), ?_⟩
  try dsimp only [xJ, jD]
  exact (xT rfl h1 at0 (xT rfl h1 at1 ⟨_, _, rfl, rfl, hq, xT rfl h1 at1 ⟨sL2, k⟩⟩))
theorem jd {i j : Int} {n m : Nat} (h1 : i.natAbs < 2 ^ n) (h2 : j.natAbs < 2 ^ m) : (i * j).natAbs < 2 ^ (n + m) := by
  rw [Int.natAbs_mul, Nat.pow_add]
  exact Nat.mul_lt_mul'' h1 h2
theorem qEp {x0 x1 x2 x3 x4 : V} : atI [x0, x1, x2, x3, x4] 2 = some x2 := rfl
theorem qFg {x0 x1 x2 x3 x4 : V} : atI [x0, x1, x2, x3, x4] 3 = some x3 := rfl
theorem qBr {x0 x1 x2 x3 x4 : V} : atI [x0, x1, x2, x3, x4] 0 = some x0 := rfl
theorem qDf {x0 x1 x2 x3 x4 : V} : atI [x0, x1, x2, x3, x4] 1 = some x1 := rfl
theorem qEh {x0 x1 x2 x3 x4 : V} : atI [x0, x1, x2, x3, x4] 4 = some x4 := rfl
theorem eq2 (a b c d : Int) : zj [.int a, .int b] [.int c, .int d] = (a == c && b == d) := by
  simp [zj, eqV, List.range_succ]
structure Bn (n : Nat) (p q r s : Int) : Prop where
  q0 : 0 < q
  s0 : 0 < s
  bp : p.natAbs < 2 ^ n
  bq : q.natAbs < 2 ^ n
  br : r.natAbs < 2 ^ n
  bs : s.natAbs < 2 ^ n
theorem xo {i : Int} {n m : Nat} (h : i.natAbs < 2 ^ n) (l : n ≤ m := by decide) : i.natAbs < 2 ^ m := Nat.lt_of_lt_of_le h (Nat.pow_le_pow_right (by decide) l)
theorem Bn.mono {n m : Nat} {p q r s : Int} (h : Bn n p q r s) (l : n ≤ m := by decide) : Bn m p q r s := ⟨h.q0, h.s0, xo h.bp l, xo h.bq l, xo h.br l, xo h.bs l⟩
theorem Bn.part {p q r s k : Int} (h : Bn 110 p q r s) (hk : k.natAbs < 2 ^ 30) : Bn 340 (plP p q r s k) (plQ p q r s k) r s := by
  obtain ⟨hq, hs, bp, bq, br, bs⟩ := h
  refine ⟨qGa hq hs, hs, Nat.lt_of_le_of_lt (qEe hq hs) ?_, Nat.lt_of_le_of_lt (qD9 hq hs) (xo (jd bq bs)), xo br, xo bs⟩
  have h1 := jd bp bs
  have h2 := jd (jd hk br) bq
  have e : (2 : Nat) ^ (110 + 110) + 2 ^ (30 + 110 + 110) ≤ 2 ^ 340 := by decide
  omega
theorem wb {i : Int} {n : Nat} (h : i.natAbs < 2 ^ n) (l : n ≤ 8000 := by decide) : i.natAbs < 2 ^ 8000 := xo h l
def qGp (c : Nat) : Bool := !(Builtin.Str.occurrences "abcdefghijklmnopqrstuvwxyz" ⟨#[c]⟩ 0 ("abcdefghijklmnopqrstuvwxyz" : Str).length 1).isEmpty
def xp (z : Str) : Bool := decide (1 ≤ z.length ∧ z.length ≤ 8) && z.cps.toList.all qGp
def kD (K : W.Frag) : Sp := fun vs H Q _ => ∃ (z : Addr) (ns : List Int) (i : Int), vs = [.ref z, .int i] ∧ SqL K H z (ns.map V.int) ∧ ns.length ≤ 63 ∧ 0 ≤ i ∧ ∀ c : Int, Q (.int c) H
theorem jU (T : Tx K mg a) : FnOk P w K mg base CX0 1 a.a__law_cell_at a.f__law_cell_at ["_law_script", "_law_k"] (kD K) := by
  refine T.d__law_cell_at.F.ok kQ (fun vs H Q E h => ?_) (fun cdv A outer s H vs Q E hr h => ?_)
  · obtain ⟨z, ns, i, rfl, _⟩ := h
    rfl
  obtain ⟨z, ns, i, rfl, hS, hl, h0, k⟩ := h
  refine ⟨_, (qF (qp (qJ qA2 (pv 1) (qZ jI rfl T.b_len rfl (qA (pv 0) qE)) (qM _)) (qH (qO (qP qh (pv 0) (pv 1) (fun _ _ => rfl)))) qU)
      (qH (qO qB))), ?_⟩
  try dsimp only [xJ, jD]
  have hml : (ns.map V.int).length = ns.length := List.length_map _
  refine ⟨_, rfl, _, rfl, z, _, rfl, .inl hS, _, _, rfl, rfl, _, rfl, ?_⟩
  refine zH (fun c => ?_) (fun _ => ?_)
  · have c' : i < ((ns.map V.int).length : Int) := of_decide_eq_true c
    rw [hml] at c'
    have hi : i.toNat < ns.length := by omega
    have e : i = ((i.toNat : Nat) : Int) := by omega
    have hat : atI (ns.map V.int) ((i.toNat : Nat) : Int) = some (.int ns[i.toNat]) := zN (by rw [List.getElem?_map, List.getElem?_eq_getElem hi]; rfl)
    rw [← e] at hat
    exact ⟨_, rfl, _, rfl, z, _, _, .int ns[i.toNat], rfl, rfl, hS, hat, k _⟩
  · exact k 0
theorem qC7 (ns : List Int) (lo hi : Option Int) : ∃ ms : List Int, v8 (ns.map V.int) lo hi = ms.map V.int ∧ ms.length ≤ ns.length := by
  refine ⟨(ns.drop (HT.sIx (ns.map V.int).length 0 lo)).take (HT.sIx (ns.map V.int).length (ns.map V.int).length hi - HT.sIx (ns.map V.int).length 0 lo), ?_, ?_⟩
  · unfold v8
    rw [List.map_take, List.map_drop]
  · rw [List.length_take, List.length_drop]; omega
inductive Im where
  | clip (n : Str) (p q r s l : Int)
  | nest (n : Str) (b l : Int)
  | gap (l : Int)
  | mix (l : Int)
def Im.d : Im → D
  | .clip n p q r s l => .tup [.leaf (.str "clip"), .leaf (.str n), .tup [.leaf (.int p), .leaf (.int q)], .tup [.leaf (.int r), .leaf (.int s)], .leaf (.int l)]
  | .nest n b l => .tup [.leaf (.str "nest"), .leaf (.str n), .leaf (.int b), .leaf (.int l)]
  | .gap l => .tup [.leaf (.str "gap"), .leaf (.int l)]
  | .mix l => .tup [.leaf (.str "mix"), .leaf (.int l)]
def Im.wd : Im → Str
  | .clip .. => "clip"
  | .nest .. => "nest"
  | .gap _ => "gap"
  | .mix _ => "mix"
def Im.l : Im → Int
  | .clip _ _ _ _ _ l => l
  | .nest _ _ l => l
  | .gap l => l
  | .mix l => l
def TS (H H' : Hp) : Prop := ∀ b xs, H b = some (.tup xs) → H' b = some (.tup xs)
theorem TS.refl (H : Hp) : TS H H := fun _ _ h => h
theorem TS.trans {H H1 H2 : Hp} (a : TS H H1) (b : TS H1 H2) : TS H H2 := fun c o h => b c o (a c o h)
theorem qK {H H' : Hp} (e : Same H H') : TS H H' := fun _ _ h => e _ _ h
theorem j2 {H : Hp} {l : Addr} {xs : List V} {o : HO} (h : H l = some (.lst xs)) : TS H (upd H l o) := fun b ys hb => by
  rw [qW (qGj hb h (by intro z; cases z))]; exact hb
theorem jY {H H' : Hp} {y : Addr} {o : HO} (e : Same H H') (h : H y = none) : Same H (upd H' y o) := fun b u hb => by
  rw [qW (qL hb h)]; exact e b u hb
def IsI (H : Hp) : Im → V → Prop
  | .clip n p q r s l, v => ∃ z x y : Addr, v = .ref z ∧ H z = some (.tup [.str "clip", .str n, .ref x, .ref y, .int l]) ∧ H x = some (.tup [.int p, .int q]) ∧ H y = some (.tup [.int r, .int s])
  | .nest n b l, v => ∃ z : Addr, v = .ref z ∧ H z = some (.tup [.str "nest", .str n, .int b, .int l])
  | .gap l, v => ∃ z : Addr, v = .ref z ∧ H z = some (.tup [.str "gap", .int l])
  | .mix l, v => ∃ z : Addr, v = .ref z ∧ H z = some (.tup [.str "mix", .int l])
theorem isM {H : Hp} {z : Addr} {l : Int} (h : H z = some (.tup [.str "mix", .int l])) : IsI H (.mix l) (.ref z) := ⟨z, rfl, h⟩
theorem IsI.ts {H H' : Hp} (e : TS H H') : ∀ {m : Im} {v : V}, IsI H m v → IsI H' m v
  | .clip .., _, ⟨z, x, y, h, hz, hx, hy⟩ => ⟨z, x, y, h, e _ _ hz, e _ _ hx, e _ _ hy⟩
  | .nest .., _, ⟨z, h, hz⟩ => ⟨z, h, e _ _ hz⟩
  | .gap _, _, ⟨z, h, hz⟩ => ⟨z, h, e _ _ hz⟩
  | .mix _, _, ⟨z, h, hz⟩ => ⟨z, h, e _ _ hz⟩
theorem IsI.opn {H : Hp} {m : Im} {v : V} (h : IsI H m v) : ∃ (z : Addr) (xs : List V), v = .ref z ∧ H z = some (.tup xs) ∧ atI xs 0 = some (.str m.wd) ∧ atI xs (-1) = some (.int m.l) := by
  cases m with
  | clip n p q r s l => obtain ⟨z, x, y, h, hz, _⟩ := h; exact ⟨z, _, h, hz, rfl, rfl⟩
  | nest n b l => obtain ⟨z, h, hz⟩ := h; exact ⟨z, _, h, hz, rfl, rfl⟩
  | gap l => obtain ⟨z, h, hz⟩ := h; exact ⟨z, _, h, hz, rfl, rfl⟩
  | mix l => obtain ⟨z, h, hz⟩ := h; exact ⟨z, _, h, hz, rfl, rfl⟩
theorem xg {H : Hp} : ∀ {xs : List V}, xs.all j3 = true → Reps K H (xs.map D.leaf) xs
  | [], _ => by simp [Reps]
  | x :: xs, h => by
    rw [List.all_cons, Bool.and_eq_true] at h
    rw [List.map_cons]; unfold Reps Rep
    exact ⟨⟨rfl, h.1⟩, xg h.2⟩
theorem jn {H : Hp} {z : Addr} {xs : List V} (hz : H z = some (.tup xs)) (h : xs.all j3 = true) : Rep K H (.tup (xs.map D.leaf)) (.ref z) := by
  unfold Rep
  exact ⟨z, xs, rfl, SqT.of hz, xg h⟩
theorem IsI.rep {H : Hp} : ∀ {m : Im} {v : V}, IsI H m v → Rep K H m.d v
  | .clip n p q r s l, _, ⟨z, x, y, h, hz, hx, hy⟩ => by
    subst h
    have h1 : Rep K H (.tup [.leaf (.int p), .leaf (.int q)]) (.ref x) := jn hx rfl
    have h2 : Rep K H (.tup [.leaf (.int r), .leaf (.int s)]) (.ref y) := jn hy rfl
    unfold Im.d Rep
    refine ⟨z, _, rfl, SqT.of hz, ?_⟩
    unfold Reps Reps Reps Reps Reps Reps
    refine ⟨?_, ?_, h1, h2, ?_, trivial⟩
    · unfold Rep; exact ⟨rfl, rfl⟩
    · unfold Rep; exact ⟨rfl, rfl⟩
    · unfold Rep; exact ⟨rfl, rfl⟩
  | .nest n b l, _, ⟨z, h, hz⟩ => by subst h; exact jn hz rfl
  | .gap l, _, ⟨z, h, hz⟩ => by subst h; exact jn hz rfl
  | .mix l, _, ⟨z, h, hz⟩ => by subst h; exact jn hz rfl
theorem qDk (m : Im) : eqD m.d m.d = true := by
  cases m <;> simp [Im.d, eqD, xF, eqV]
theorem qGi (m : Im) : dep m.d ≤ 2 := by
  cases m <;> simp [Im.d, dep, zq]
def IsIs (H : Hp) : List Im → List V → Prop
  | [], [] => True
  | m :: ms, v :: vs => IsI H m v ∧ IsIs H ms vs
  | _, _ => False
theorem IsIs.len {H : Hp} : ∀ {ms : List Im} {vs : List V}, IsIs H ms vs → vs.length = ms.length
  | [], [], _ => rfl
  | _ :: _, _ :: _, h => by rw [List.length_cons, List.length_cons, IsIs.len h.2]
  | [], _ :: _, h => h.elim
  | _ :: _, [], h => h.elim
theorem IsIs.ts {H H' : Hp} (e : TS H H') : ∀ {ms : List Im} {vs : List V}, IsIs H ms vs → IsIs H' ms vs
  | [], [], _ => trivial
  | _ :: _, _ :: _, h => ⟨IsI.ts e h.1, IsIs.ts e h.2⟩
  | [], _ :: _, h => h.elim
  | _ :: _, [], h => h.elim
theorem IsIs.get {H : Hp} : ∀ {ms : List Im} {vs : List V} {i : Nat} {v : V}, IsIs H ms vs → vs[i]? = some v → ∃ m, ms[i]? = some m ∧ IsI H m v
  | [], [], _, _, _, h => by simp at h
  | m :: _, x :: _, 0, v, h, e => by
    have e' : x = v := by simpa using e
    subst e'
    exact ⟨m, rfl, h.1⟩
  | _ :: ms, _ :: vs, i + 1, v, h, e => by
    obtain ⟨m, h1, h2⟩ := IsIs.get (i := i) h.2 (by simpa using e)
    exact ⟨m, by simpa using h1, h2⟩
  | [], _ :: _, _, _, h, _ => h.elim
  | _ :: _, [], _, _, h, _ => h.elim
theorem IsIs.app {H : Hp} : ∀ {ms : List Im} {vs : List V} {ms' : List Im} {vs' : List V}, IsIs H ms vs → IsIs H ms' vs' → IsIs H (ms ++ ms') (vs ++ vs')
  | [], [], _, _, _, h' => h'
  | _ :: _, _ :: _, _, _, h, h' => ⟨h.1, h.2.app h'⟩
  | [], _ :: _, _, _, h, _ => h.elim
  | _ :: _, [], _, _, h, _ => h.elim
theorem IsIs.one {H : Hp} {m : Im} {v : V} (h : IsI H m v) : IsIs H [m] [v] := ⟨h, trivial⟩
theorem IsIs.rep {H : Hp} : ∀ {ms : List Im} {vs : List V}, IsIs H ms vs → Reps K H (ms.map Im.d) vs
  | [], [], _ => by unfold List.map Reps; trivial
  | _ :: _, _ :: _, h => by unfold List.map Reps; exact ⟨h.1.rep, h.2.rep⟩
  | [], _ :: _, h => h.elim
  | _ :: _, [], h => h.elim
theorem wQ : ∀ ms : List Im, xF (ms.map Im.d) (ms.map Im.d) = true
  | [] => by simp [xF]
  | m :: ms => by unfold List.map xF; rw [qDk, wQ ms]; rfl
theorem qAi : ∀ ms : List Im, zq (ms.map Im.d) ≤ 2
  | [] => by simp [zq]
  | m :: ms => by
    have h1 := qGi m
    have h2 := qAi ms
    unfold List.map zq
    omega
def Tr (H : Hp) (z : Addr) (ms : List Im) : Prop := ∃ vs, H z = some (.lst vs) ∧ IsIs H ms vs
theorem Tr.same {H H' : Hp} {z : Addr} {ms : List Im} (e : Same H H') (h : Tr H z ms) : Tr H' z ms := let ⟨vs, h1, h2⟩ := h; ⟨vs, e _ _ h1, h2.ts (qK e)⟩
theorem Tr.rep {H : Hp} {z : Addr} {ms : List Im} (h : Tr H z ms) : Rep K H (.lst (ms.map Im.d)) (.ref z) := by
  obtain ⟨vs, h1, h2⟩ := h
  unfold Rep
  exact ⟨z, vs, rfl, SqL.of h1, h2.rep⟩
theorem qHo {H : Hp} {x y : Addr} {ms : List Im} {Q : VK} (h1 : Tr H x ms) (h2 : Tr H y ms) (q : Q (.bl false) H) : qC0 K true (.ref x) (.ref y) H Q := by
  refine ⟨_, _, h1.rep, h2.rep, rfl, by have := qAi ms; unfold dep; omega, ?_⟩
  have e : eqD (.lst (ms.map Im.d)) (.lst (ms.map Im.d)) = true := by unfold eqD; exact wQ ms
  rw [e]
  exact q
theorem qFd {H : Hp} {x y : Addr} {ms : List Im} {Q : VK} (h1 : Tr H x ms) (h2 : H y = some (.lst [])) (q : Q (.bl ms.isEmpty) H) : qC0 K false (.ref x) (.ref y) H Q := by
  refine ⟨_, .lst [], h1.rep, ?_, rfl, by have := qAi ms; unfold dep; omega, ?_⟩
  · unfold Rep; exact ⟨y, [], rfl, SqL.of h2, by unfold Reps; trivial⟩
  · have e : eqD (.lst (ms.map Im.d)) (.lst []) = ms.isEmpty := by cases ms <;> simp [eqD, xF]
    rw [e]
    exact q
theorem qC1 {H : Hp} {x y : Addr} {ms : List Im} {Q : VK} (h1 : Tr H x ms) (h2 : H y = some (.lst [])) (q : Q (.bl (!ms.isEmpty)) H) : qC0 K true (.ref x) (.ref y) H Q := by
  refine ⟨_, .lst [], h1.rep, ?_, rfl, by have := qAi ms; unfold dep; omega, ?_⟩
  · unfold Rep; exact ⟨y, [], rfl, SqL.of h2, by unfold Reps; trivial⟩
  · have e : eqD (.lst (ms.map Im.d)) (.lst []) = ms.isEmpty := by cases ms <;> simp [eqD, xF]
    rw [e]
    exact q
theorem wz {H : Hp} {x : Addr} {ns : List Int} (h : H x = some (.lst (ns.map V.int))) : Rep K H (.lst ((ns.map V.int).map D.leaf)) (.ref x) := by
  unfold Rep
  exact ⟨x, _, rfl, SqL.of h, xg (by rw [List.all_map, List.all_eq_true]; intro _ _; rfl)⟩
theorem w9 : ∀ ns : List Int, xF ((ns.map V.int).map D.leaf) ((ns.map V.int).map D.leaf) = true
  | [] => by simp [xF]
  | n :: ns => by
    have ih := w9 ns
    simp only [List.map_cons]
    unfold xF
    rw [ih]
    simp [eqD, eqV]
theorem kS : ∀ vs : List V, zq (vs.map D.leaf) = 0
  | [] => by simp [zq]
  | n :: ns => by
    have ih := kS ns
    simp only [List.map_cons]
    unfold zq
    rw [ih]
    simp [dep]
theorem qE4 {H : Hp} {x y : Addr} {ns : List Int} {Q : VK} (h1 : H x = some (.lst (ns.map V.int))) (h2 : H y = some (.lst (ns.map V.int))) (q : Q (.bl false) H) : qC0 K true (.ref x) (.ref y) H Q := by
  refine ⟨_, _, wz h1, wz h2, rfl, by unfold dep; rw [kS]; decide, ?_⟩
  have e : eqD (.lst ((ns.map V.int).map D.leaf)) (.lst ((ns.map V.int).map D.leaf)) = true := by unfold eqD; exact w9 ns
  rw [e]
  exact q
theorem IsIs.dl {H : Hp} : ∀ {ms : List Im} {vs : List V}, IsIs H ms vs → IsIs H ms.dropLast vs.dropLast
  | [], [], _ => trivial
  | [_], [_], _ => trivial
  | _ :: _ :: _, _ :: _ :: _, h => ⟨h.1, IsIs.dl h.2⟩
  | [], _ :: _, h => h.elim
  | _ :: _, [], h => h.elim
  | [_], _ :: _ :: _, h => h.2.elim
  | _ :: _ :: _, [_], h => h.2.elim
theorem IsIs.last {H : Hp} {ms : List Im} {vs : List V} (h : IsIs H ms vs) (hne : ms ≠ []) : ∃ v m, vs[vs.length - 1]? = some v ∧ ms.getLast? = some m ∧ m ∈ ms ∧ IsI H m v := by
  have hl : 0 < ms.length := List.length_pos_iff.mpr hne
  have hi : vs.length - 1 < vs.length := by rw [h.len]; omega
  have ev : vs[vs.length - 1]? = some vs[vs.length - 1] := List.getElem?_eq_getElem hi
  obtain ⟨m, h1, h2⟩ := h.get ev
  refine ⟨_, m, ev, ?_, List.mem_of_getElem? h1, h2⟩
  rw [h.len] at h1
  rw [List.getLast?_eq_getElem?]
  exact h1
theorem qF6 {m : Im} (h : m.wd = "gap") : ∃ l, m = .gap l := by
  cases m with
  | gap l => exact ⟨l, rfl⟩
  | clip => exact absurd (show ("clip" : Str) = "gap" from h) (by decide +kernel)
  | nest => exact absurd (show ("nest" : Str) = "gap" from h) (by decide +kernel)
  | mix => exact absurd (show ("mix" : Str) = "gap" from h) (by decide +kernel)
def Im.mo : Im → Int
  | .mix _ => 0
  | .clip _ _ _ _ _ l => l
  | .nest _ _ l => l
  | .gap l => l
theorem xE {α : Type} {xs : List α} {v : α} (h : xs[xs.length - 1]? = some v) : atI xs (-1) = some v := by
  have hl : 0 < xs.length := by
    have := (glt h)
    omega
  have e : ixN xs.length (-1) = some (xs.length - 1) := by
    unfold ixN
    rw [if_neg (by decide), if_pos (by omega)]
    congr 1
    omega
  unfold atI; rw [e]; exact h
theorem qDe {m : Im} (h : m.wd = "mix") : ∃ l, m = .mix l := by
  cases m with
  | mix l => exact ⟨l, rfl⟩
  | clip => exact absurd (show ("clip" : Str) = "mix" from h) (by decide +kernel)
  | nest => exact absurd (show ("nest" : Str) = "mix" from h) (by decide +kernel)
  | gap => exact absurd (show ("gap" : Str) = "mix" from h) (by decide +kernel)
theorem qG7 {m : Im} (h : m.wd ≠ "mix") : m.mo = m.l := by
  cases m with
  | mix l => exact absurd rfl h
  | _ => rfl
theorem qHc {x y : Str} : decide (V.str x = V.str y) = decide (x = y) := by
  rw [Bool.eq_iff_iff]; simp
def vd : Sp := fun vs H Q _ => ∃ (v : V) (m : Im), vs = [v] ∧ IsI H m v ∧ Q (.int m.mo) H
theorem vY (T : Tx K mg a) : FnOk P w K mg base CX0 1 a.a_moments_of a.f_moments_of ["item"] vd := by
  refine T.d_moments_of.F.ok vZ (fun vs H Q E h => ?_) (fun cdv A outer s H vs Q E hr h => ?_)
  · obtain ⟨v, m, rfl, _⟩ := h
    rfl
  obtain ⟨v, m, rfl, hI, kk⟩ := h
  refine ⟨_, (qH (qO (qAl (qJ j0 (qP qN (pv 0) qB (fun _ _ => rfl)) qY (qM _)) qB (qP qN (pv 0) (xX jp qB) (fun _ _ => rfl))))), ?_⟩
  try dsimp only [xJ, jD]
  obtain ⟨z, xs, rfl, hz, h0, h1⟩ := hI.opn
  refine ⟨_, rfl, z, xs, _, _, rfl, rfl, SqT.of hz, h0, rfl, _, rfl, zH (fun c => ?_) (fun c => ?_)⟩
  · obtain ⟨l, rfl⟩ := qDe (by simpa using c)
    exact kk
  · rw [qG7 (by simpa using c)] at kk
    exact ⟨_, rfl, _, rfl, z, xs, _, _, rfl, rfl, SqT.of hz, h1, kk⟩
inductive RtB (K : W.Frag) (H : Hp) : V → Bool → Prop where
  | no {x : V} (h : FrB K H x false) : RtB K H x false
  | nums {z : Addr} {p q : Int} (e : H z = some (.tup [.int p, .int q])) (hq : 1 ≤ q) (hg : Int.gcd p q = 1) (bp : Sm p) (bq : Sm q) : RtB K H (.ref z) (decide (0 < p))
theorem qE1 {H H' : Hp} (s : Same H H') {x : V} {t : Value} (h : vR K H x t) : vR K H' x t := by
  cases h with
  | non => exact .non
  | bl x => exact .bl x
  | int i => exact .int i
  | str z => exact .str z
  | flt x => exact .flt x
  | lst e => exact .lst (s _ _ e)
  | frz e => exact .frz (s _ _ e)
  | tup e => exact .tup (s _ _ e)
  | dK e => exact .dK (s _ _ e)
  | dT e => exact .dT (s _ _ e)
  | ins e cl ha hn htk hm => exact .ins (s _ _ e) cl ha hn htk hm
theorem FrB.same {H H' : Hp} (s : Same H H') {x : V} {b : Bool} (h : FrB K H x b) : FrB K H' x b := by
  cases h with
  | no ty e => exact .no (qE1 s ty) e
  | len e h => exact .len (s _ _ e) h
  | one e h => exact .one (s _ _ e) (h.same s)
  | two e h => exact .two (s _ _ e) (h.same s)
  | nums e => exact .nums (s _ _ e)
theorem RtB.same {H H' : Hp} (s : Same H H') {x : V} {b : Bool} (h : RtB K H x b) : RtB K H' x b := by
  cases h with
  | no h => exact .no (h.same s)
  | nums e hq hg bp bq => exact .nums (s _ _ e) hq hg bp bq
structure Rate (H : Hp) (x : V) (p q : Int) : Prop where
  ex : ∃ z, x = .ref z ∧ H z = some (.tup [.int p, .int q])
  p0 : 0 < p
  q0 : 0 < q
  g : Int.gcd p q = 1
  bp : p < 1000000
  bq : q < 1000000
theorem zB {i : Int} (h0 : -1000000 < i) (h : i < 1000000) : Sm i := Sm.of200 (Nat.lt_of_lt_of_le (show i.natAbs < 2 ^ 20 by omega) (Nat.pow_le_pow_right (by decide) (by decide)))
theorem Rate.same {H H' : Hp} {x : V} {p q : Int} (s : Same H H') (h : Rate H x p q) : Rate H' x p q := ⟨let ⟨z, e1, e2⟩ := h.ex; ⟨z, e1, s _ _ e2⟩, h.p0, h.q0, h.g, h.bp, h.bq⟩
theorem Rate.rt {H : Hp} {x : V} {p q : Int} (h : Rate H x p q) : RtB K H x true := by
  obtain ⟨z, rfl, e⟩ := h.ex
  have hp := h.p0
  have hq := h.q0
  have bp := h.bp
  have bq := h.bq
  have := RtB.nums (K := K) e (by omega) h.g (zB (by omega) (by omega)) (zB (by omega) (by omega))
  rwa [decide_eq_true hp] at this
theorem Rate.pr {H : Hp} {x : V} {p q : Int} (h : Rate H x p q) : Pr K H x p q := let ⟨z, e1, e2⟩ := h.ex; ⟨z, e1, SqT.of e2⟩
def qAy (K : W.Frag) : Sp := fun vs H Q _ => ∃ (x : V) (b : Bool), vs = [x] ∧ RtB K H x b ∧ Q (.bl b) H
theorem kr (T : Tx K mg a) : FnOk P w K mg base CX0 3 a.a_is_rate a.f_is_rate ["thing"] (qAy K) := by
  refine T.d_is_rate.F.ok qAw (fun vs H Q E h => ?_) (fun cdv A outer s H vs Q E hr h => ?_)
  · obtain ⟨x, b, rfl, _⟩ := h
    rfl
  obtain ⟨x, b, rfl, hx, k⟩ := h
  refine ⟨_, (qH (qO (xq (qI T.d_is_fraction (jx T) hr rfl (qA (pv 0) qE)) (xf (qI T.d_is_before (xc T) hr rfl (qA (xI (v := .ref a.n_NOUGHT) rfl T.g_NOUGHT rfl) (qA (pv 0) qE))))))), ?_⟩
  try dsimp only [xJ, jD]
  cases hx with
  | no h => exact ⟨_, rfl, x, false, rfl, h, false, rfl, jE k⟩
  | @nums z p q e hq hg bp bq =>
    have f := FrB.nums (K := K) e
    have d : (decide (1 ≤ q) && decide (Int.gcd p q = 1)) = true := by rw [hg, decide_eq_true hq]; rfl
    rw [d] at f
    refine ⟨_, rfl, _, true, rfl, f, true, rfl, j9 ?_⟩
    refine ⟨_, rfl, _, _, 0, 1, p, q, rfl, ⟨_, rfl, T.sq_NOUGHT H⟩, ⟨z, rfl, SqT.of e⟩, zB (by decide) (by decide), zB (by decide) (by decide), bp, bq, ?_⟩
    have e : decide (0 * q < p * 1) = decide (0 < p) := by rw [Int.zero_mul, Int.mul_one]
    rw [e]
    exact k
def kd (K : W.Frag) : Sp := fun vs H Q _ => ∃ (x y : V), vs = [x, y] ∧ RtB K H x true ∧ RtB K H y true ∧ Q .non H
theorem xt (T : Tx K mg a) : FnOk P w K mg base CX0 4 a.a_check_rates a.f_check_rates ["rate", "other"] (kd K) := by
  refine T.d_check_rates.F.ok kZ (fun vs H Q E h => ?_) (fun cdv A outer s H vs Q E hr h => ?_)
  · obtain ⟨x, y, rfl, _⟩ := h
    rfl
  obtain ⟨x, y, rfl, hx, hy, k⟩ := h
  refine ⟨_, (qH (qp (PW.pt (j4 (jS (jK (qI T.d_is_rate (kr T) hr rfl (qA (pv 0) qE)))) (jm (jS (jK (qI T.d_is_rate (kr T) hr rfl (qA (pv 1) qE))))))) xM qU)), ?_⟩
  try dsimp only [xJ, jD]
  refine ⟨_, rfl, x, true, rfl, hx, true, rfl, jE ?_⟩
  exact ⟨_, rfl, y, true, rfl, hy, true, rfl, jE k⟩
def whD : Option Im → D
  | none => .tup [.leaf (.str "end")]
  | some (.clip n p q r s _) => .tup [.leaf (.str "clip"), .leaf (.str n), .tup [.leaf (.int p), .leaf (.int q)], .tup [.leaf (.int r), .leaf (.int s)]]
  | some (.nest n b _) => .tup [.leaf (.str "nest"), .leaf (.str n), .leaf (.int b)]
  | some (.gap _) => .tup [.leaf (.str "gap")]
  | some (.mix l) => .tup [.leaf (.str "mix"), .leaf (.int l)]
def WhV (K : W.Frag) (H : Hp) : Option Im → V → Prop
  | none, v => ∃ z, v = .ref z ∧ (H z = some (.tup [.str "end"]) ∨ ∀ H', SqT K H' z [.str "end"])
  | some (.clip n p q r s _), v => ∃ z x y, v = .ref z ∧ H z = some (.tup [.str "clip", .str n, .ref x, .ref y]) ∧ H x = some (.tup [.int p, .int q]) ∧ H y = some (.tup [.int r, .int s])
  | some (.nest n b _), v => ∃ z, v = .ref z ∧ H z = some (.tup [.str "nest", .str n, .int b])
  | some (.gap _), v => ∃ z, v = .ref z ∧ H z = some (.tup [.str "gap"])
  | some (.mix l), v => ∃ z, v = .ref z ∧ H z = some (.tup [.str "mix", .int l])
theorem qG0 {H : Hp} {z : Addr} (h : H z = some (.tup [.str "end"]) ∨ ∀ H', SqT K H' z [.str "end"]) : SqT K H z [.str "end"] := h.elim SqT.of fun h => h H
theorem nm5 : ¬ (HT.sIx 5 0 none = 0 ∧ HT.sIx 5 5 (some (-1)) = 5) := by decide
theorem nm4 : ¬ (HT.sIx 4 0 none = 0 ∧ HT.sIx 4 4 (some (-1)) = 4) := by decide
theorem nm2 : ¬ (HT.sIx 2 0 none = 0 ∧ HT.sIx 2 2 (some (-1)) = 2) := by decide
theorem WhV.ts {H H' : Hp} (e : TS H H') : ∀ {m : Option Im} {v : V}, WhV K H m v → WhV K H' m v
  | none, _, ⟨z, h, hz⟩ => ⟨z, h, hz.imp (fun h => e _ _ h) id⟩
  | some (.clip ..), _, ⟨z, x, y, h, hz, hx, hy⟩ => ⟨z, x, y, h, e _ _ hz, e _ _ hx, e _ _ hy⟩
  | some (.nest ..), _, ⟨z, h, hz⟩ => ⟨z, h, e _ _ hz⟩
  | some (.gap _), _, ⟨z, h, hz⟩ => ⟨z, h, e _ _ hz⟩
  | some (.mix _), _, ⟨z, h, hz⟩ => ⟨z, h, e _ _ hz⟩
theorem qCi {H : Hp} {z : Addr} {xs : List V} (hz : SqT K H z xs) (h : xs.all j3 = true) : Rep K H (.tup (xs.map D.leaf)) (.ref z) := by
  unfold Rep
  exact ⟨z, xs, rfl, hz, xg h⟩
theorem WhV.rep {H : Hp} : ∀ {m : Option Im} {v : V}, WhV K H m v → Rep K H (whD m) v
  | none, _, ⟨z, h, hz⟩ => by subst h; exact qCi (qG0 hz) rfl
  | some (.clip n p q r s l), _, ⟨z, x, y, h, hz, hx, hy⟩ => by
    subst h
    have h1 : Rep K H (.tup [.leaf (.int p), .leaf (.int q)]) (.ref x) := jn hx rfl
    have h2 : Rep K H (.tup [.leaf (.int r), .leaf (.int s)]) (.ref y) := jn hy rfl
    unfold whD Rep
    refine ⟨z, _, rfl, SqT.of hz, ?_⟩
    unfold Reps Reps Reps Reps Reps
    refine ⟨?_, ?_, h1, h2, trivial⟩
    · unfold Rep; exact ⟨rfl, rfl⟩
    · unfold Rep; exact ⟨rfl, rfl⟩
  | some (.nest n b l), _, ⟨z, h, hz⟩ => by subst h; exact jn hz rfl
  | some (.gap l), _, ⟨z, h, hz⟩ => by subst h; exact jn hz rfl
  | some (.mix l), _, ⟨z, h, hz⟩ => by subst h; exact jn hz rfl
theorem qDo (m : Option Im) : eqD (whD m) (whD m) = true := by
  rcases m with _ | m
  · simp [whD, eqD, xF, eqV]
  · cases m <;> simp [whD, eqD, xF, eqV]
theorem qDr (m : Option Im) : dep (whD m) ≤ 2 := by
  rcases m with _ | m
  · simp [whD, dep, zq]
  · cases m <;> simp [whD, dep, zq]
theorem WhV.tup {H : Hp} : ∀ {m : Option Im} {v : V}, WhV K H m v → ∃ z xs, v = .ref z ∧ SqT K H z xs
  | none, _, ⟨z, h, hz⟩ => ⟨z, _, h, qG0 hz⟩
  | some (.clip ..), _, ⟨z, _, _, h, hz, _⟩ => ⟨z, _, h, SqT.of hz⟩
  | some (.nest ..), _, ⟨z, h, hz⟩ => ⟨z, _, h, SqT.of hz⟩
  | some (.gap _), _, ⟨z, h, hz⟩ => ⟨z, _, h, SqT.of hz⟩
  | some (.mix _), _, ⟨z, h, hz⟩ => ⟨z, _, h, SqT.of hz⟩
theorem qF0 {H : Hp} {m : Im} {v : V} (h : IsI H m v) (hm : m.wd ≠ "mix") : ∃ (z : Addr) (xs : List V), v = .ref z ∧ H z = some (.tup xs) ∧ ¬ (HT.sIx xs.length 0 none = 0 ∧ HT.sIx xs.length xs.length (some (-1)) = xs.length) ∧
    ∀ (t : Addr), H t = none → WhV K (upd H t (.tup (v8 xs none (some (-1))))) (some m) (.ref t) := by
  cases m with
  | clip n p q r s l =>
    obtain ⟨z, x, y, h, hz, hx, hy⟩ := h
    refine ⟨z, _, h, hz, nm5, fun t ht => ⟨t, x, y, rfl, qC, (qD ht _) _ _ hx, (qD ht _) _ _ hy⟩⟩
  | nest n b l =>
    obtain ⟨z, h, hz⟩ := h
    exact ⟨z, _, h, hz, nm4, fun t ht => ⟨t, rfl, qC⟩⟩
  | gap l =>
    obtain ⟨z, h, hz⟩ := h
    exact ⟨z, _, h, hz, nm2, fun t ht => ⟨t, rfl, qC⟩⟩
  | mix l => exact absurd rfl hm
theorem qFj {H : Hp} {l : Int} {v : V} (h : IsI H (.mix l) v) : WhV K H (some (.mix l)) v := let ⟨z, h1, h2⟩ := h; ⟨z, h1, h2⟩
def zO (K : W.Frag) : Sp := fun vs H Q _ => ∃ (v : V) (m : Im), vs = [v] ∧ IsI H m v ∧ ∀ (u : V) (H' : Hp), Same H H' → WhV K H' (some m) u → Q u H'
theorem zP (T : Tx K mg a) : FnOk P w K mg base CX0 1 a.a_without_length a.f_without_length ["item"] (zO K) := by
  refine T.d_without_length.F.ok zK (fun vs H Q E h => ?_) (fun cdv A outer s H vs Q E hr h => ?_)
  · obtain ⟨v, m, rfl, _⟩ := h
    rfl
  obtain ⟨v, m, rfl, hI, kk⟩ := h
  refine ⟨_, (qH (qO (qAl (qJ j0 (qP qN (pv 0) qB (fun _ _ => rfl)) qY (qM _)) (pv 0) (zC qDy (pv 0) wr (xz (xX jp qB)))))), ?_⟩
  try dsimp only [xJ, jD]
  obtain ⟨z, xs, rfl, hz, h0, h1⟩ := hI.opn
  refine ⟨_, rfl, z, xs, _, _, rfl, rfl, SqT.of hz, h0, rfl, _, rfl, zH (fun c => ?_) (fun c => ?_)⟩
  · obtain ⟨l, rfl⟩ := qDe (by simpa using c)
    exact ⟨_, rfl, kk _ _ (Same.refl _) (qFj hI)⟩
  · obtain ⟨z', xs', e, hz', hn, hw⟩ := qF0 (K := K) hI (by simpa using c)
    cases e
    exact ⟨_, rfl, 1, rfl, _, rfl, z, _, rfl, SqT.of hz', hn, fun t ht => kk _ _ (qD ht _) (hw t ht)⟩
def wpP (P Q b : Int) : Int := jO (jO b 1 * P) (qm b 1 * Q)
def wpQ (P Q b : Int) : Int := qm (jO b 1 * P) (qm b 1 * Q)
theorem qBf {Q : Int} (b : Int) (h : 0 < Q) : qm b 1 * Q ≠ 0 := Int.mul_ne_zero (by have := jX (t := b) (b := 1) (by decide); omega) (by omega)
theorem wT {P Q b : Int} (h : 0 < Q) : 0 < wpQ P Q b := jX (qBf b h)
theorem qF2 {P Q b : Int} (h : 0 < Q) : Int.gcd (wpP P Q b) (wpQ P Q b) = 1 := vJ (qBf b h)
def RowV (K : W.Frag) (H : Hp) (P Q : Int) (r : Int × Option Im) (v : V) : Prop := ∃ z x u, v = .ref z ∧ H z = some (.tup [.int ((wpP P Q r.1).fdiv (wpQ P Q r.1)), .ref x, u]) ∧ H x = some (.tup [.int ((wpP P Q r.1).fmod (wpQ P Q r.1)), .int (wpQ P Q r.1)]) ∧ WhV K H r.2 u
theorem RowV.ts {H H' : Hp} (e : TS H H') {P Q : Int} {r : Int × Option Im} {v : V} (h : RowV K H P Q r v) : RowV K H' P Q r v := let ⟨z, x, u, h1, h2, h3, h4⟩ := h; ⟨z, x, u, h1, e _ _ h2, e _ _ h3, h4.ts e⟩
def RowsV (K : W.Frag) (H : Hp) (P Q : Int) : List (Int × Option Im) → List V → Prop
  | [], [] => True
  | r :: rs, v :: vs => RowV K H P Q r v ∧ RowsV K H P Q rs vs
  | _, _ => False
theorem RowsV.len {H : Hp} {P Q : Int} : ∀ {rs : List (Int × Option Im)} {vs : List V}, RowsV K H P Q rs vs → vs.length = rs.length
  | [], [], _ => rfl
  | _ :: _, _ :: _, h => by rw [List.length_cons, List.length_cons, RowsV.len h.2]
  | [], _ :: _, h => h.elim
  | _ :: _, [], h => h.elim
theorem RowsV.ts {H H' : Hp} (e : TS H H') {P Q : Int} : ∀ {rs : List (Int × Option Im)} {vs : List V}, RowsV K H P Q rs vs → RowsV K H' P Q rs vs
  | [], [], _ => trivial
  | _ :: _, _ :: _, h => ⟨RowV.ts e h.1, RowsV.ts e h.2⟩
  | [], _ :: _, h => h.elim
  | _ :: _, [], h => h.elim
theorem RowsV.get {H : Hp} {P Q : Int} : ∀ {rs : List (Int × Option Im)} {vs : List V} {i : Nat} {v : V}, RowsV K H P Q rs vs → vs[i]? = some v → ∃ r, rs[i]? = some r ∧ RowV K H P Q r v
  | [], [], _, _, _, h => by simp at h
  | m :: _, x :: _, 0, v, h, e => by
    have e' : x = v := by simpa using e
    subst e'
    exact ⟨m, rfl, h.1⟩
  | _ :: ms, _ :: vs, i + 1, v, h, e => by
    obtain ⟨m, h1, h2⟩ := RowsV.get (i := i) h.2 (by simpa using e)
    exact ⟨m, by simpa using h1, h2⟩
  | [], _ :: _, _, _, h, _ => h.elim
  | _ :: _, [], _, _, h, _ => h.elim
theorem RowsV.app {H : Hp} {P Q : Int} : ∀ {ms : List (Int × Option Im)} {vs : List V} {ms' : List (Int × Option Im)} {vs' : List V}, RowsV K H P Q ms vs → RowsV K H P Q ms' vs' → RowsV K H P Q (ms ++ ms') (vs ++ vs')
  | [], [], _, _, _, h' => h'
  | _ :: _, _ :: _, _, _, h, h' => ⟨h.1, h.2.app h'⟩
  | [], _ :: _, _, _, h, _ => h.elim
  | _ :: _, [], _, _, h, _ => h.elim
theorem RowsV.one {H : Hp} {P Q : Int} {r : Int × Option Im} {v : V} (h : RowV K H P Q r v) : RowsV K H P Q [r] [v] := ⟨h, trivial⟩
def qBz (K : W.Frag) : Sp := fun vs H Q _ => ∃ (b P R : Int) (y u : V) (m : Option Im), vs = [.int b, y, u] ∧ Pr K H y P R ∧ 0 < R ∧ b.natAbs < 2 ^ 200 ∧ P.natAbs < 2 ^ 200 ∧ R.natAbs < 2 ^ 200 ∧ WhV K H m u ∧ ∀ (v : V) (H' : Hp), Same H H' → RowV K H' P R (b, m) v → Q v H'
theorem wJ (T : Tx K mg a) : FnOk P w K mg base CX0 4 a.a_row_at a.f_row_at ["border", "by", "what"] (qBz K) := by
  refine T.d_row_at.F.ok sc_row_at (fun vs H Q E h => ?_) (fun cdv A outer s H vs Q E hr h => ?_)
  · obtain ⟨b, P, R, y, u, m, rfl, _⟩ := h
    rfl
  obtain ⟨b, P', R, y, u, m, rfl, hy, hR, bb, bP, bR, hw, kk⟩ := h
  refine ⟨_, (qF (qX (i := 3) sc_row_at.nd rfl (Or.inl rfl) (qI T.d_times_of (kE T) hr rfl (qA (qI T.d_fraction (xB T) hr rfl (qA (pv 0) (qA qB qE))) (qA (pv 1) qE))))
      (qH (qO (qi (qA (qI T.d_floor_of (xv T) hr rfl (qA (pv 3) qE)) (qA (qI T.d_rest_of (kg T) hr rfl (qA (pv 3) qE)) (qA (pv 2) qE))))))), ?_⟩
  try dsimp only [xJ, jD]
  have l1 : (jO b 1).natAbs < 2 ^ 200 := Nat.lt_of_le_of_lt (jo (by decide)) bb
  have l2 : (qm b 1).natAbs < 2 ^ 200 := Nat.lt_of_le_of_lt (jf (by decide)) (by decide)
  have l3 := jX (t := b) (b := 1) (by decide)
  refine ⟨_, rfl, b, 1, rfl, by decide, wb (n := 1) (by decide), fun z1 h1 => ?_⟩
  have w1 := qD h1 (.tup [.int (jO b 1), .int (qm b 1)])
  refine ⟨_, rfl, _, _, jO b 1, qm b 1, P', R, rfl, ⟨z1, rfl, SqT.of qC⟩, hy.same w1, by omega, by omega, .of200 l1, .of200 l2, .of200 bP, .of200 bR, fun z2 h2 => ?_⟩
  have w2 := qD h2 (.tup [.int (wpP P' R b), .int (wpQ P' R b)])
  have hq := wT (P := P') (b := b) hR
  have bq : (wpQ P' R b).natAbs < 2 ^ 8000 := by
    refine Nat.lt_of_le_of_lt (jf (qBf b hR)) ?_
    exact Sm.prod (.of200 l2) (.of200 bR)
  have p2 : Pr K (upd (upd H z1 (.tup [.int (jO b 1), .int (qm b 1)])) z2 (.tup [.int (wpP P' R b), .int (wpQ P' R b)])) (.ref z2) (wpP P' R b) (wpQ P' R b) := ⟨z2, rfl, SqT.of qC⟩
  refine ⟨_, rfl, _, _, _, rfl, p2, by omega, bq, _, rfl, _, _, _, rfl, p2, by omega, fun z3 h3 => ?_⟩
  have w3 := qD h3 (.tup [.int ((wpP P' R b).fmod (wpQ P' R b)), .int (wpQ P' R b)])
  refine ⟨_, rfl, sL3, fun z4 h4 => ?_⟩
  have w4 := qD h4 (.tup [.int ((wpP P' R b).fdiv (wpQ P' R b)), .ref z3, u])
  exact kk _ _ (((w1.trans w2).trans w3).trans w4) ⟨z4, z3, u, rfl, qC, w4 _ _ qC, hw.ts (qK (((w1.trans w2).trans w3).trans w4))⟩
def pre : Int → List Im → List (Int × Option Im)
  | _, [] => []
  | b, m :: ms => (b, some m) :: pre (b + m.mo) ms
theorem qAj : ∀ (ms : List Im) (b : Int) (m : Im), pre b (ms ++ [m]) = pre b ms ++ [(b + (ms.map Im.mo).sum, some m)]
  | [], b, m => by simp [pre]
  | x :: ms, b, m => by
    rw [List.cons_append, pre, qAj ms, pre, List.map_cons, List.sum_cons, List.cons_append, Int.add_assoc]
theorem xy : ∀ (ms : List Im) (b : Int), (pre b ms).length = ms.length
  | [], _ => rfl
  | _ :: ms, _ => by rw [pre, List.length_cons, List.length_cons, xy ms]
theorem qBt : ∀ (ms : List Im) (b : Int) (i : Nat) (m : Im), ms[i]? = some m → (pre b ms)[i]? = some (b + ((ms.take i).map Im.mo).sum, some m)
  | [], _, _, _, h => by simp at h
  | x :: ms, b, 0, m, h => by
    have : x = m := by simpa using h
    subst this
    simp [pre]
  | x :: ms, b, i + 1, m, h => by
    have := qBt ms (b + x.mo) i m (by simpa using h)
    rw [pre, List.getElem?_cons_succ, this, List.take_succ_cons, List.map_cons, List.sum_cons, Int.add_assoc]
def xH (ms : List Im) : List (Int × Option Im) := pre 0 ms ++ [((ms.map Im.mo).sum, none)]
theorem kx (ms : List Im) : (xH ms).length = ms.length + 1 := by unfold xH; rw [List.length_append, xy]; rfl
theorem qDl {ms : List Im} {i : Nat} {m : Im} (h : ms[i]? = some m) : (xH ms)[i]? = some (((ms.take i).map Im.mo).sum, some m) := by
  unfold xH
  rw [List.getElem?_append_left (by rw [xy]; exact glt h), qBt ms 0 i m h, Int.zero_add]
theorem qDi (ms : List Im) : (xH ms)[ms.length]? = some ((ms.map Im.mo).sum, none) := by
  unfold xH
  rw [List.getElem?_append_right (by rw [xy]; omega), xy, Nat.sub_self]
  rfl
def Bd (ms : List Im) : Prop := ms.length ≤ 200 ∧ ∀ m ∈ ms, 0 ≤ m.mo ∧ m.mo ≤ 10 ^ 30
theorem qDp : ∀ (ms : List Im), (∀ m ∈ ms, 0 ≤ m.mo ∧ m.mo ≤ 10 ^ 30) → 0 ≤ (ms.map Im.mo).sum ∧ (ms.map Im.mo).sum ≤ ms.length * 10 ^ 30
  | [], _ => by simp
  | m :: ms, h => by
    have h1 := h m (by simp)
    have h2 := qDp ms fun x hx => h x (by simp [hx])
    rw [List.map_cons, List.sum_cons, List.length_cons]
    omega
theorem Bd.sum {ms : List Im} (h : Bd ms) (i : Nat) : 0 ≤ ((ms.take i).map Im.mo).sum ∧ ((ms.take i).map Im.mo).sum ≤ 200 * 10 ^ 30 := by
  have h2 := qDp (ms.take i) fun m hm => h.2 m (List.mem_of_mem_take hm)
  have h3 : (ms.take i).length ≤ 200 := by rw [List.length_take]; have := h.1; omega
  omega
theorem Bd.abs {ms : List Im} (h : Bd ms) (i : Nat) : (((ms.take i).map Im.mo).sum).natAbs < 2 ^ 200 := by
  have := h.sum i
  have e : (200 * 10 ^ 30 : Nat) < 2 ^ 200 := by decide
  omega
def byP (r0 r1 o0 o1 : Int) : Int := jO (o0 * r1) (o1 * r0)
def byQ (r0 r1 o0 o1 : Int) : Int := qm (o0 * r1) (o1 * r0)
theorem qEr {r0 o1 : Int} (h1 : 0 < r0) (h2 : 0 < o1) : o1 * r0 ≠ 0 := Int.mul_ne_zero (by omega) (by omega)
theorem xS {x y : Int} (h0 : 0 < x) (h1 : x < 1000000) (h2 : 0 < y) (h3 : y < 1000000) : (x * y).natAbs < 2 ^ 200 := by
  have h := qFa (Int.le_of_lt h0) h1 (Int.le_of_lt h2) h3
  have h' := Int.mul_pos h0 h2
  exact Nat.lt_of_lt_of_le (show (x * y).natAbs < 2 ^ 40 by omega) (Nat.pow_le_pow_right (by decide) (by decide))
def qAq (K : W.Frag) : Sp := fun vs H Q _ => ∃ (z : Addr) (ms : List Im) (x y : V) (r0 r1 o0 o1 : Int), vs = [.ref z, x, y] ∧ Tr H z ms ∧ Bd ms ∧ Rate H x r0 r1 ∧ Rate H y o0 o1 ∧
  ∀ (l : Addr) (us : List V) (H' : Hp), Same H H' → H l = none → H' l = some (.lst us) → RowsV K H' (byP r0 r1 o0 o1) (byQ r0 r1 o0 o1) (xH ms) us → Q (.ref l) H'
theorem kq (T : Tx K mg a) : FnOk P w K mg base CX0 5 a.a_written a.f_written ["track", "rate", "other"] (qAq K) := by
  refine T.d_written.F.ok sc_written (fun vs H Q E h => ?_) (fun cdv A outer s H vs Q E hr h => ?_)
  · obtain ⟨z, ms, x, y, r0, r1, o0, o1, rfl, _⟩ := h
    rfl
  obtain ⟨z, ms, x, y, r0, r1, o0, o1, rfl, tT, hB, rx, ry, kk⟩ := h
  refine ⟨_, (qF (je (qI T.d_check_rates (xt T) hr rfl (qA (pv 1) (qA (pv 2) qE))))
      (qF (qX (i := 3) sc_written.nd rfl (Or.inl rfl) (qI T.d_quotient (kW T) hr rfl (qA (pv 2) (qA (pv 1) qE))))
      (qF (qX (i := 4) sc_written.nd rfl (Or.inl rfl) (jT qE))
      (qF (qX (i := 5) sc_written.nd rfl (Or.inl rfl) qB)
      (qF (zG PassesOwn.never rfl (xx (pv 0)) (qo (i := 6) sc_written.nd rfl (Or.inl rfl)) (qF (je (zu F.plainAttrs_list F.slot_list_append F.type_list_append jL (pv 4) (qA (qI T.d_row_at (wJ T) hr rfl (qA (pv 5) (qA (pv 3) (qA (qI T.d_without_length (zP T) hr rfl (qA (pv 6) qE)) qE)))) qE)))
      (qH (qX (i := 5) sc_written.nd rfl (Or.inl rfl) (qQ jF (pv 5) (qI T.d_moments_of (vY T) hr rfl (qA (pv 6) qE)))))))
      (qH (qO (qQ qE9 (pv 4) (jT (qA (qI T.d_row_at (wJ T) hr rfl (qA (pv 5) (qA (pv 3) (qA (xI (v := .ref a.n_END) rfl T.g_END rfl) qE)))) qE)))))))))), ?_⟩
  try dsimp only [xJ, jD]
  have px := rx.p0
  have py := ry.p0
  have qx := rx.q0
  have qy := ry.q0
  have c1 := rx.bp
  have c2 := rx.bq
  have c3 := ry.bp
  have c4 := ry.bq
  refine ⟨_, rfl, _, rfl, x, y, rfl, rx.rt, ry.rt, ?_⟩
  refine ⟨_, rfl, _, rfl, y, x, o0, o1, r0, r1, rfl, ry.pr, rx.pr, by omega, by omega, zB (by omega) (by omega), zB (by omega) (by omega), zB (by omega) (by omega), zB (by omega) (by omega), fun zb hb => ?_⟩
  unfold byP byQ at kk
  have hne := qEr px qy
  have bP : (jO (o0 * r1) (o1 * r0)).natAbs < 2 ^ 200 := Nat.lt_of_le_of_lt (jo hne) (xS py c3 qx c2)
  have bQ : (qm (o0 * r1) (o1 * r0)).natAbs < 2 ^ 200 := Nat.lt_of_le_of_lt (jf hne) (xS qy c4 px c1)
  have q0 : 0 < qm (o0 * r1) (o1 * r0) := jX hne
  generalize jO (o0 * r1) (o1 * r0) = BP at kk bP ⊢
  generalize qm (o0 * r1) (o1 * r0) = BQ at kk bQ q0 ⊢
  have w1 := qD hb (.tup [.int BP, .int BQ])
  refine ⟨sL0, fun l hl => ?_⟩
  have w2 := qD hl (.lst [])
  have w12 := w1.trans w2
  have pB : (upd (upd H zb (.tup [.int BP, .int BQ])) l (.lst [])) zb = some (.tup [.int BP, .int BQ]) := w2 _ _ qC
  obtain ⟨vs, hz, his⟩ := tT
  have el : (upd (upd H zb (.tup [.int BP, .int BQ])) l (.lst [])) l = some (.lst []) := qC
  have hl0 : H l = none := w1.free hl
  generalize upd (upd H zb (.tup [.int BP, .int BQ])) l (.lst []) = H2 at w12 pB el ⊢
  have pB' : ∀ {H' : Hp}, TS H2 H' → Pr K H' (.ref zb) BP BQ := fun ts => ⟨zb, rfl, SqT.of (ts _ _ pB)⟩
  refine ⟨_, rfl, z, rfl, ⟨_, SqL.of (w12 _ _ hz)⟩, vD (K := K) (a := z) (xs := vs) (fun i σ H' => ∃ (o : Option V) (us : List V), σ = [some (.ref z), some x, some y, some (.ref zb), some (.ref l), some (.int ((ms.take i).map Im.mo).sum), o] ∧ H' l = some (.lst us) ∧ RowsV K H' BP BQ (pre 0 (ms.take i)) us ∧ TS H2 H' ∧ Same H H')
    ⟨none, [], rfl, el, trivial, TS.refl _, w12⟩ ?_ ?_ ?_⟩
  · rintro i σ H' hi ⟨_, _, _, _, _, _, e⟩
    exact SqL.of (e _ _ hz)
  · rintro i x' σ H' hx ⟨o, us, rfl, hus, hrs, ts, e⟩
    obtain ⟨m, hm, hI⟩ := his.get hx
    have hI := hI.ts (qK e)
    have hul : us.length ≤ 200 := by rw [hrs.len, xy, List.length_take]; have := hB.1; omega
    have et : ms.take (i + 1) = ms.take i ++ [m] := by rw [List.take_add_one, hm]; rfl
    refine ⟨_, rfl, .inl ⟨rfl, _, SqL.of hus⟩, _, rfl, _, rfl, _, rfl, x', m, rfl, hI, fun u H3 s3 hw => ?_⟩
    refine ⟨_, BP, BQ, _, u, some m, rfl, (pB' ts).same s3, q0, hB.abs i, bP, bQ, hw, fun v H4 s4 rv => ?_⟩
    have s34 := s3.trans s4
    have hus4 := s34 _ _ hus
    refine ⟨l, us, v, rfl, rfl, hus4, qd (by omega), ?_⟩
    have t5 : TS H4 (upd H4 l (.lst (us ++ [v]))) := j2 hus4
    have tI := (hI.ts (qK s34)).ts t5
    refine ⟨_, rfl, _, rfl, x', m, rfl, tI, _, _, rfl, rfl, some x', us ++ [v], ?_, qC, ?_, (ts.trans (qK s34)).trans t5, jY (e.trans s34) hl0⟩
    · rw [et, List.map_append, List.sum_append]
      show _ = [some (V.ref z), some x, some y, some (.ref zb), some (.ref l), some (.int (((ms.take i).map Im.mo).sum + (m.mo + 0))), some x']
      rw [Int.add_zero]
      rfl
    · rw [et, qAj, Int.zero_add]
      exact ((hrs.ts (qK s34)).app (.one rv)).ts t5
  · rintro σ H' ⟨o, us, rfl, hus, hrs, ts, e⟩
    have em : ms.take vs.length = ms := by rw [his.len, List.take_length]
    rw [em] at hrs ⊢
    have hul : us.length ≤ 200 := by rw [hrs.len, xy]; exact hB.1
    have ba : ((ms.map Im.mo).sum).natAbs < 2 ^ 200 := by have := hB.abs vs.length; rwa [em] at this
    refine ⟨_, rfl, _, rfl, _, rfl, _, BP, BQ, _, .ref a.n_END, none, rfl, pB' ts, q0, ba, bP, bQ, ⟨_, rfl, .inr T.sq_END⟩, fun v H4 s4 rv => ?_⟩
    refine ⟨sL1, fun d hd => ?_⟩
    have w5 := qD hd (.lst [v])
    refine ⟨l, d, us, [v], rfl, rfl, w5 _ _ (s4 _ _ hus), qC, Nat.le_of_lt (qd (by show us.length + 1 ≤ 1000; omega)), fun L hL => ?_⟩
    have w6 := qD hL (.lst (us ++ [v]))
    have s46 := (s4.trans w5).trans w6
    exact kk L _ _ (e.trans s46) ((e.trans (s4.trans w5)).free hL) qC ((hrs.ts (qK s46)).app (.one (rv.ts (qK (w5.trans w6)))))
def zr (P Q : Int) (r : Int × Option Im) : Bool := zj [.int ((wpP P Q r.1).fmod (wpQ P Q r.1)), .int (wpQ P Q r.1)] [.int 0, .int 1]
def wH (K : W.Frag) : Sp := fun vs H Q _ => ∃ (z : Addr) (ms : List Im) (x y : V) (r0 r1 o0 o1 : Int), vs = [.ref z, x, y] ∧ Tr H z ms ∧ Bd ms ∧ Rate H x r0 r1 ∧ Rate H y o0 o1 ∧
  ∀ (H' : Hp), Same H H' → Q (.bl ((xH ms).all (zr (byP r0 r1 o0 o1) (byQ r0 r1 o0 o1)))) H'
theorem vn (T : Tx K mg a) : FnOk P w K mg base CX0 7 a.a_holds_all a.f_holds_all ["track", "rate", "other"] (wH K) := by
  refine T.d_holds_all.F.ok vm (fun vs H Q E h => ?_) (fun cdv A outer s H vs Q E hr h => ?_)
  · obtain ⟨z, ms, x, y, r0, r1, o0, o1, rfl, _⟩ := h
    rfl
  obtain ⟨z, ms, x, y, r0, r1, o0, o1, rfl, tT, hB, rx, ry, kk⟩ := h
  have hu := hr.units0
  refine ⟨_, (qH (qO (qZ (wE rfl) rfl T.b_all rfl (qA (qCv [] [] rfl (xx (qI T.d_written (kq T) hr rfl (qA (pv 0) (qA (pv 1) (qA (pv 2) qE))))) (fun _ _ _ _ => (jW (qD8 (K := K) rfl hu) (pv 1) (xI (v := .ref a.n_NOUGHT) rfl T.g_NOUGHT rfl) (qM _)))) qE)))), ?_⟩
  try dsimp only [xJ, jD]
  refine ⟨_, rfl, _, rfl, _, rfl, z, ms, x, y, r0, r1, o0, o1, rfl, tT, hB, rx, ry, fun l us H1 s1 l0 hl rv => ?_⟩
  generalize byP r0 r1 o0 o1 = BP at *
  generalize byQ r0 r1 o0 o1 = BQ at *
  have hul : us.length ≤ 201 := by rw [rv.len, kx]; have := hB.1; omega
  refine ⟨l, rfl, ⟨_, SqL.of hl⟩, qAr (K := K) (a := l) (xs := us) (fun i acc H' => H' = H1 ∧ acc = (((xH ms).take i).map (zr BP BQ)).map V.bl) ⟨rfl, rfl⟩ ?_ ?_ ?_⟩
  · rintro i acc H' hi ⟨rfl, rfl⟩
    exact ⟨SqL.of hl, qd (by simp only [List.length_map, List.length_take]; omega)⟩
  · rintro i v acc H' hi hv ⟨rfl, rfl⟩
    obtain ⟨r, hr', z4, x4, u4, rfl, e1, e2, _⟩ := rv.get hv
    refine ⟨z4, _, _, _, rfl, SqT.of e1, ?_⟩
    refine ⟨_, rfl, _, _, _, _, rfl, rfl, SqT.of e2, T.sq_NOUGHT _, rfl, rfl, Nxt.mk hi ⟨rfl, ?_⟩⟩
    rw [List.take_add_one, hr', List.map_append, List.map_append]
    rfl
  · rintro acc H' ⟨rfl, rfl⟩ D hD
    have em : (xH ms).take us.length = xH ms := by rw [rv.len, List.take_length]
    rw [em]
    refine ⟨D, _, rfl, SqL.of qC, ?_⟩
    have e : ((xH ms).map (zr BP BQ)).all id = (xH ms).all (zr BP BQ) := by rw [List.all_map]; rfl
    rw [e]
    exact kk _ (s1.trans (qD hD _))
def kX : Sp := fun vs H Q _ => ∃ t b : Int, vs = [.int t, .int b] ∧ b ≠ 0 ∧ b.natAbs < 2 ^ 8000 ∧ qCp H Q (jO t b) (qm t b)
theorem jz (T : Tx K mg a) : FnOk P w K mg base CX0 1 a.a__law_lowest a.f__law_lowest ["_law_top", "_law_bottom"] kX := by
  refine T.d__law_lowest.F.ok sc__law_lowest (fun vs H Q E h => ?_) (fun cdv A outer s H vs Q E hr h => ?_)
  · obtain ⟨t, b, rfl, _⟩ := h
    rfl
  obtain ⟨t, b, rfl, hb, hs, q⟩ := h
  refine ⟨_, (qF (qX (i := 2) sc__law_lowest.nd rfl (Or.inl rfl) (qZ vW rfl T.b_abs rfl (qA (pv 0) qE)))
      (qF (qX (i := 3) sc__law_lowest.nd rfl (Or.inl rfl) (qZ vW rfl T.b_abs rfl (qA (pv 1) qE)))
      (qF (qAh PassesOwn.never (qJ xb (pv 3) qB (qM _)) (qH (qFo (i := 2) (j := 3) rfl sc__law_lowest.nd rfl rfl (by decide) rfl rfl (qA (pv 3) (qA (qQ qj (pv 2) (pv 3)) qE)) rfl)))
      (qF (qp (qJ qA2 (pv 1) qB (qM _)) (qH (qX (i := 2) sc__law_lowest.nd rfl (Or.inl rfl) (xX jp (pv 2)))) qU)
      (qH (qO (qi (qA (qQ qk (pv 0) (pv 2)) (qA (qQ qk (pv 1) (pv 2)) qE))))))))), ?_⟩
  try dsimp only [xJ, jD]
  refine ⟨_, rfl, t, rfl, _, rfl, b, rfl, ?_⟩
  refine qAd (fun σ H' => H' = H ∧ ∃ x y : Int, σ = [some (.int t), some (.int b), some (.int x), some (.int y)] ∧ 0 ≤ x ∧ 0 ≤ y ∧ Int.gcd x y = Int.gcd t b)
    (fun σ _ => match σ with | [_, _, _, some (.int y)] => y.natAbs | _ => 0) ⟨rfl, _, _, rfl, ?_, ?_, ?_⟩ ?_ ?_
  · split <;> omega
  · split <;> omega
  · have e1 : (if t < 0 then -t else t) = ((t.natAbs : Nat) : Int) := by split <;> omega
    have e2 : (if b < 0 then -b else b) = ((b.natAbs : Nat) : Int) := by split <;> omega
    rw [e1, e2]
    rfl
  · rintro σ H1 ⟨rfl, x, y, rfl, h0, h1, e⟩
    refine ⟨_, rfl, rfl, _, rfl, ?_⟩
    refine zH (fun c => ?_) (fun c => ?_)
    · have hy : y ≠ 0 := by simpa using c
      refine ⟨_, rfl, _, rfl, _, rfl, _, _, rfl, rfl, hy, _, _, rfl, ⟨rfl, y, x.fmod y, rfl, h1, Int.fmod_nonneg_of_pos x (by omega), ?_⟩, ?_⟩
      · rw [zz]; exact e
      · exact qB9 x y hy
    · have hy : y = 0 := by simpa using c
      subst hy
      have e2 : x = ((Int.gcd t b : Nat) : Int) := by
        rw [← e, Int.gcd_zero_right]
        omega
      refine ⟨_, rfl, _, _, rfl, rfl, _, rfl, ?_⟩
      obtain ⟨d1, d2⟩ := qAc (t := t) hb hs
      refine zH (fun c => ?_) (fun c => ?_)
      · have c' : b < 0 := by simpa using c
        have e : -x = sg t b := by unfold sg; rw [if_pos c', e2]
        have q' : qCp H1 Q (t.fdiv (-x)) (b.fdiv (-x)) := by rw [e]; exact q
        exact ⟨_, rfl, _, rfl, _, rfl, _, rfl, _, _, rfl, rfl, (by rw [e]; exact d1), _, rfl, _, rfl, _, _, rfl, rfl, (by rw [e]; exact d2), sL2, q'⟩
      · have c' : ¬ b < 0 := by simpa using c
        have e : x = sg t b := by unfold sg; rw [if_neg c', e2]
        have q' : qCp H1 Q (t.fdiv x) (b.fdiv x) := by rw [e]; exact q
        exact ⟨_, rfl, _, rfl, _, _, rfl, rfl, (by rw [e]; exact d1), _, rfl, _, rfl, _, _, rfl, rfl, (by rw [e]; exact d2), sL2, q'⟩
  · rintro σ H1 Q1 Q2 hq h
    obtain ⟨v, e, s, k, hk, z⟩ := h
    exact ⟨v, e, s, k, hk, hq _ _ z⟩
def vC : Sp := fun vs H Q _ => ∃ n m : Int, vs = [.int n, .int m] ∧ 0 ≤ m ∧ m ≤ 100 ∧
  ∀ (z : Addr) (xs : List Int), H z = none → xs.length = m.toNat → (∀ x ∈ xs, 0 ≤ x ∧ x < 2147483629) → Q (.ref z) (upd H z (.lst (xs.map V.int)))
theorem xV (T : Tx K mg a) : FnOk P w K mg base CX0 1 a.a__law_drawn a.f__law_drawn ["_law_number", "_law_many"] vC := by
  refine T.d__law_drawn.F.ok sc__law_drawn (fun vs H Q E h => ?_) (fun cdv A outer s H vs Q E hr h => ?_)
  · obtain ⟨n, m, rfl, _⟩ := h
    rfl
  obtain ⟨n, m, rfl, h0, h1, k⟩ := h
  refine ⟨_, (qF (qX (i := 2) sc__law_drawn.nd rfl (Or.inl rfl) (jT qE))
      (qF (qX (i := 3) sc__law_drawn.nd rfl (Or.inl rfl) (qQ qj (pv 0) qB))
      (qF (zG PassesOwn.never rfl (x9 rfl T.b_range (qA (pv 1) qE)) (qo (i := 4) sc__law_drawn.nd rfl (Or.inl rfl)) (qF (qX (i := 3) sc__law_drawn.nd rfl (Or.inl rfl) (qQ qj (qQ jF (qQ jF (qQ jF (qQ jV (pv 3) (pv 3)) (qQ jV qB (pv 3))) (qQ jV qB (pv 4))) qB) qB))
      (qH (je (zu F.plainAttrs_list F.slot_list_append F.type_list_append jL (pv 2) (qA (qQ qk (pv 3) qB) qE))))))
      (qH (qO (pv 2)))))), ?_⟩
  try dsimp only [xJ, jD]
  refine ⟨sL0, fun z hz => ?_⟩
  refine ⟨_, rfl, _, _, rfl, rfl, nz, ?_⟩
  refine ⟨_, rfl, m, rfl, by omega, by omega, zA (n := m.toNat) (fun i σ H' => ∃ (xs : List Int) (x : Int) (o : Option V), σ = [some (.int n), some (.int m), some (.ref z), some (.int x), o] ∧ H' = upd H z (.lst (xs.map V.int)) ∧ xs.length = i ∧ (∀ x ∈ xs, 0 ≤ x ∧ x < 2147483629) ∧ 0 ≤ x ∧ x < 2147483629)
    ⟨[], _, none, rfl, rfl, rfl, (by simp), Int.fmod_nonneg_of_pos n (by decide), Int.fmod_lt_of_pos n (by decide)⟩ ?_ ?_⟩
  · rintro i σ H' hi ⟨xs, x, o, rfl, rfl, hl, hx, x0, x1⟩
    have q0 := Int.fmod_nonneg_of_pos (x * x + 40692 * x + 2 * (0 + (i : Int)) + 1) (show (0 : Int) < 2147483629 by decide)
    have q1 := Int.fmod_lt_of_pos (x * x + 40692 * x + 2 * (0 + (i : Int)) + 1) (show (0 : Int) < 2147483629 by decide)
    refine ⟨_, rfl, _, rfl, _, _, rfl, rfl, cmL (by omega) (by omega), _, rfl, _, _, rfl, rfl, cmL (by decide) (by decide), _, _, rfl, rfl, ?_⟩
    refine ⟨_, rfl, _, _, rfl, rfl, cmL (by decide) (by decide), _, _, rfl, rfl, _, _, rfl, rfl, _, _, rfl, rfl, nz, ?_⟩
    refine ⟨_, rfl, .inl ⟨rfl, _, SqL.of qC⟩, _, rfl, _, _, rfl, rfl, cdB (by decide) (by decide), z, _, _, rfl, rfl, qC, (by rw [List.length_map]; exact qd (by omega)), ?_⟩
    refine ⟨xs ++ [(x * x + 40692 * x + 2 * (0 + (i : Int)) + 1).fmod 2147483629 |>.fdiv 3], _, _, rfl, ?_, ?_, ?_, q0, q1⟩
    · rw [wo, List.map_append]
      rfl
    · rw [List.length_append, hl]
      rfl
    · intro y hy
      rcases List.mem_append.mp hy with hy | hy
      · exact hx y hy
      · have e : y = ((x * x + 40692 * x + 2 * (0 + (i : Int)) + 1).fmod 2147483629).fdiv 3 := by simpa using hy
        rw [e, Int.fdiv_eq_ediv_of_nonneg _ (by decide)]
        omega
  · rintro σ H' ⟨xs, x, o, rfl, rfl, hl, hx, x0, x1⟩
    exact ⟨_, rfl, k z xs hz hl hx⟩
theorem atN {xs : List V} {i : Int} {n : Nat} (h : xs.length = n) (h0 : 0 ≤ i) (h1 : i < (n : Int)) : ∃ v, atI xs i = some v ∧ v ∈ xs := by
  have hi : i.toNat < xs.length := by omega
  have e : i = ((i.toNat : Nat) : Int) := by omega
  have hat := zN (List.getElem?_eq_getElem hi)
  rw [← e] at hat
  exact ⟨_, hat, List.getElem_mem hi⟩
theorem qGo {b : Bool} {A B : Prop} (h : b = false) (q : B) : if b = true then A else B := by subst h; exact q
inductive NmB (K : W.Frag) (H : Hp) : V → Bool → Prop where
  | str (z : Str) (h : z.length ≤ 1000) : NmB K H (.str z) (xp z)
  | no {x : V} {t : Value} (ty : vR K H x t) (e : W.kitOne K t (.type "str") = some false) : NmB K H x false
def vx (K : W.Frag) : Sp := fun vs H Q _ => ∃ (x : V) (b : Bool), vs = [x] ∧ NmB K H x b ∧ ∀ H', Same H H' → Q (.bl b) H'
theorem zT (T : Tx K mg a) : FnOk P w K mg base CX0 1 a.a_is_name a.f_is_name ["thing"] (vx K) := by
  refine T.d_is_name.F.ok qA1 (fun vs H Q E h => ?_) (fun cdv A outer s H vs Q E hr h => ?_)
  · obtain ⟨x, b, rfl, _⟩ := h
    rfl
  obtain ⟨x, b, rfl, hx, kk⟩ := h
  refine ⟨_, (qF (qp (jS (jK (qZ jB rfl T.b_isinstance rfl (qA (pv 0) (qA (zg rfl T.b_str rfl) qE))))) (qH (qO xW)) qU)
      (qF (qp (PW.pt (j4 (qJ qA2 (qZ za rfl T.b_len rfl (qA (pv 0) qE)) qB (qM _)) (jm (qJ qE0 (qZ za rfl T.b_len rfl (qA (pv 0) qE)) (xI (v := .int 8) rfl T.g_LONGEST_NAME ⟨_, rfl⟩) (qM _))))) (qH (qO xW)) qU)
      (qH (qO (qZ (wE rfl) rfl T.b_all rfl (qA (wq [] [] rfl (qFl (pv 0)) (fun _ _ _ _ => (jW qFz (pv 0) (xI (v := .str "abcdefghijklmnopqrstuvwxyz") rfl T.g_LETTERS ⟨_, rfl⟩) rfl))) qE)))))), ?_⟩
  try dsimp only [xJ, jD]
  cases hx with
  | no ty e => exact ⟨_, rfl, _, _, _, false, rfl, ty, ⟨_, .inl ⟨rfl, e⟩⟩, false, rfl, j9 (kk H (Same.refl _))⟩
  | str z hz =>
    have hsz : z.length ≤ sizeLine := Nat.le_of_lt (qd hz)
    refine ⟨_, rfl, _, _, _, true, rfl, .str z, ⟨_, .inl ⟨rfl, by kernel_rfl⟩⟩, true, rfl, jE ?_⟩
    refine ⟨_, rfl, z, rfl, hsz, _, _, rfl, rfl, _, rfl, ?_⟩
    by_cases h1 : (z.length : Int) < 1
    · rw [decide_eq_true h1]
      have e : xp z = false := by unfold xp; rw [decide_eq_false (by omega)]; rfl
      have := kk H (Same.refl _)
      rw [e] at this
      exact j9 (j9 this)
    rw [decide_eq_false h1]
    refine jE ⟨_, rfl, z, rfl, hsz, _, _, rfl, rfl, _, rfl, ?_⟩
    by_cases h2 : (8 : Int) < (z.length : Int)
    · rw [decide_eq_true h2]
      have e : xp z = false := by unfold xp; rw [decide_eq_false (by omega)]; rfl
      have := kk H (Same.refl _)
      rw [e] at this
      exact j9 this
    rw [decide_eq_false h2]
    refine jE ?_
    refine ⟨_, rfl, z, rfl, qC8 (fun i acc H' => H' = H ∧ acc = ((z.cps.toList.take i).map qGp).map V.bl) ⟨rfl, rfl⟩ ?_ ?_ ?_⟩
    · rintro i acc H' hi ⟨_, rfl⟩
      rw [List.length_map, List.length_map, List.length_take]
      exact qd (by have : z.cps.size = z.length := rfl; omega)
    · rintro i c acc H' hi hc ⟨rfl, rfl⟩
      refine ⟨_, rfl, _, _, rfl, rfl, Nxt.mk hi ⟨rfl, ?_⟩⟩
      have hc' : z.cps.toList[i]? = some c := by simpa using hc
      rw [List.take_succ, hc', List.map_append, List.map_append]
      rfl
    · rintro acc H' ⟨rfl, rfl⟩ D hD
      refine ⟨D, _, rfl, SqL.of qC, ?_⟩
      have e : ((z.cps.toList.take z.cps.size).map qGp).all id = xp z := by
        rw [List.take_of_length_le (by simp)]
        unfold xp
        rw [decide_eq_true (by omega : 1 ≤ z.length ∧ z.length ≤ 8), Bool.true_and, List.all_map]
        rfl
      rw [e]
      exact kk _ (qD hD _)
inductive LnB (H : Hp) : V → Bool → Prop where
  | int (i : Int) : LnB H (.int i) (decide (1 ≤ i))
  | no {x : V} (h : NoW H x) : LnB H x false
inductive CfB (K : W.Frag) (H : Hp) : V → Bool → Prop where
  | no {x : V} {t : Value} (ty : vR K H x t) (e : W.kitOne K t (.type "tuple") = some false) : CfB K H x false
  | len {z : Addr} {xs : List V} (e : H z = some (.tup xs)) (h : xs.length ≠ 5) : CfB K H (.ref z) false
  | word {z : Addr} {x0 x1 x2 x3 x4 : V} (e : H z = some (.tup [x0, x1, x2, x3, x4])) (hs : qGc x0 (.str "clip") = true) (hn : x0 ≠ .str "clip") : CfB K H (.ref z) false
  | nm {z : Addr} {x1 x2 x3 x4 : V} (e : H z = some (.tup [.str "clip", x1, x2, x3, x4])) (h : NmB K H x1 false) : CfB K H (.ref z) false
  | st {z : Addr} {x1 x2 x3 x4 : V} (e : H z = some (.tup [.str "clip", x1, x2, x3, x4])) (h1 : NmB K H x1 true) (h2 : FrB K H x2 false) : CfB K H (.ref z) false
  | sp {z : Addr} {x1 x2 x3 x4 : V} (e : H z = some (.tup [.str "clip", x1, x2, x3, x4])) (h1 : NmB K H x1 true) (h2 : FrB K H x2 true) (h3 : FrB K H x3 false) : CfB K H (.ref z) false
  | ln {z : Addr} {x1 x2 x3 x4 : V} {b : Bool} (e : H z = some (.tup [.str "clip", x1, x2, x3, x4])) (h1 : NmB K H x1 true) (h2 : FrB K H x2 true) (h3 : FrB K H x3 true) (h4 : LnB H x4 b) : CfB K H (.ref z) b
theorem LnB.wh {H : Hp} {x : V} {b : Bool} (h : LnB H x b) : (∃ i : Int, x = .int i ∧ b = decide (1 ≤ i)) ∨ (NoW H x ∧ b = false) := by
  cases h with
  | int i => exact .inl ⟨i, rfl, rfl⟩
  | no h => exact .inr ⟨h, rfl⟩
def zh (K : W.Frag) : Sp := fun vs H Q _ => ∃ (v : V) (b : Bool), vs = [v] ∧ CfB K H v b ∧ ∀ H', Same H H' → Q (.bl b) H'
theorem zo (T : Tx K mg a) : FnOk P w K mg base CX0 3 a.a_has_clip_form a.f_has_clip_form ["item"] (zh K) := by
  refine T.d_has_clip_form.F.ok zk (fun vs H Q E h => ?_) (fun cdv A outer s H vs Q E hr h => ?_)
  · obtain ⟨v, b, rfl, _⟩ := h
    rfl
  obtain ⟨v, b, rfl, hv, kk⟩ := h
  refine ⟨_, (qF (qp (PW.pt (j4 (jS (jK (qZ jB rfl T.b_isinstance rfl (qA (pv 0) (qA (zg rfl T.b_tuple rfl) qE))))) (jm (qJ xb (qZ jI rfl T.b_len rfl (qA (pv 0) qE)) qB (qM _))))) (qH (qO xW)) qU)
      (qF (qp (PW.pt (j4 (qJ xb (qP qN (pv 0) qB (fun _ _ => rfl)) qY (qM _)) (jm (jS (jK (qI T.d_is_name (zT T) hr rfl (qA (qP qN (pv 0) qB (fun _ _ => rfl)) qE))))))) (qH (qO xW)) qU)
      (qF (qp (PW.pt (j4 (jS (jK (qI T.d_is_fraction (jx T) hr rfl (qA (qP qN (pv 0) qB (fun _ _ => rfl)) qE)))) (jm (jS (jK (qI T.d_is_fraction (jx T) hr rfl (qA (qP qN (pv 0) qB (fun _ _ => rfl)) qE))))))) (qH (qO xW)) qU)
      (qH (qO (xq (qI T.d_is_whole (xU T) hr rfl (qA (qP qN (pv 0) qB (fun _ _ => rfl)) qE)) (xf (jW qCw (qP qN (pv 0) qB (fun _ _ => rfl)) qB (qM _))))))))), ?_⟩
  try dsimp only [xJ, jD]
  have five : ∀ {z : Addr} {x1 x2 x3 x4 : V} {H' : Hp}, H z = some (.tup [.str "clip", x1, x2, x3, x4]) → Same H H' → SqT K H' z [.str "clip", x1, x2, x3, x4] := fun e s => SqT.of (s _ _ e)
  cases hv with
  | no ty e => exact ⟨_, rfl, _, _, _, false, rfl, ty, ⟨_, .inl ⟨rfl, e⟩⟩, false, rfl, j9 (j9 (kk H (Same.refl _)))⟩
  | @len z xs e h =>
    refine ⟨_, rfl, _, _, _, true, rfl, .tup e, ⟨_, .inl ⟨rfl, by kernel_rfl⟩⟩, true, rfl, jE ?_⟩
    refine ⟨_, rfl, _, _, rfl, .inr (SqT.of e), rfl, _, rfl, ?_⟩
    have d : (!decide (V.int (xs.length : Int) = V.int 5)) = true := by
      have : ¬ (V.int (xs.length : Int) = V.int 5) := fun z => h (by injection z with z; omega)
      simp [this]
    rw [d]
    exact j9 (kk H (Same.refl _))
  | @word z x0 x1 x2 x3 x4 e hs hn =>
    refine ⟨_, rfl, _, _, _, true, rfl, .tup e, ⟨_, .inl ⟨rfl, by kernel_rfl⟩⟩, true, rfl, jE ?_⟩
    refine ⟨_, rfl, _, _, rfl, .inr (SqT.of e), rfl, _, rfl, jE ?_⟩
    refine (xT rfl (SqT.of e) qBr ⟨hs, _, rfl, ?_⟩)
    rw [show (!decide (x0 = V.str "clip")) = true by simp [hn]]
    exact j9 (j9 (kk H (Same.refl _)))
  | @nm z x1 x2 x3 x4 e h =>
    refine ⟨_, rfl, _, _, _, true, rfl, .tup e, ⟨_, .inl ⟨rfl, by kernel_rfl⟩⟩, true, rfl, jE ?_⟩
    refine ⟨_, rfl, _, _, rfl, .inr (SqT.of e), rfl, _, rfl, jE ?_⟩
    refine (xT rfl (SqT.of e) qBr ⟨rfl, _, rfl, qCg rfl ?_⟩)
    exact (xT rfl (SqT.of e) qDf ⟨x1, false, rfl, h, fun H1 s1 => ⟨false, rfl, j9 (kk H1 s1)⟩⟩)
  | @st z x1 x2 x3 x4 e h1 h2 =>
    refine ⟨_, rfl, _, _, _, true, rfl, .tup e, ⟨_, .inl ⟨rfl, by kernel_rfl⟩⟩, true, rfl, jE ?_⟩
    refine ⟨_, rfl, _, _, rfl, .inr (SqT.of e), rfl, _, rfl, jE ?_⟩
    refine (xT rfl (SqT.of e) qBr ⟨rfl, _, rfl, qCg rfl ?_⟩)
    refine (xT rfl (SqT.of e) qDf ⟨x1, true, rfl, h1, fun H1 s1 => ⟨true, rfl, jE ?_⟩⟩)
    exact ⟨_, rfl, _, _, _, _, rfl, rfl, five e s1, qEp, x2, false, rfl, h2.same s1, false, rfl, j9 (j9 (kk H1 s1))⟩
  | @sp z x1 x2 x3 x4 e h1 h2 h3 =>
    refine ⟨_, rfl, _, _, _, true, rfl, .tup e, ⟨_, .inl ⟨rfl, by kernel_rfl⟩⟩, true, rfl, jE ?_⟩
    refine ⟨_, rfl, _, _, rfl, .inr (SqT.of e), rfl, _, rfl, jE ?_⟩
    refine (xT rfl (SqT.of e) qBr ⟨rfl, _, rfl, qCg rfl ?_⟩)
    refine (xT rfl (SqT.of e) qDf ⟨x1, true, rfl, h1, fun H1 s1 => ⟨true, rfl, jE ?_⟩⟩)
    refine ⟨_, rfl, _, _, _, _, rfl, rfl, five e s1, qEp, x2, true, rfl, h2.same s1, true, rfl, jE ?_⟩
    exact ⟨_, rfl, _, _, _, _, rfl, rfl, five e s1, qFg, x3, false, rfl, h3.same s1, false, rfl, j9 (kk H1 s1)⟩
  | @ln z x1 x2 x3 x4 b e h1 h2 h3 h4 =>
    refine ⟨_, rfl, _, _, _, true, rfl, .tup e, ⟨_, .inl ⟨rfl, by kernel_rfl⟩⟩, true, rfl, jE ?_⟩
    refine ⟨_, rfl, _, _, rfl, .inr (SqT.of e), rfl, _, rfl, jE ?_⟩
    refine (xT rfl (SqT.of e) qBr ⟨rfl, _, rfl, qCg rfl ?_⟩)
    refine (xT rfl (SqT.of e) qDf ⟨x1, true, rfl, h1, fun H1 s1 => ⟨true, rfl, jE ?_⟩⟩)
    refine ⟨_, rfl, _, _, _, _, rfl, rfl, five e s1, qEp, x2, true, rfl, h2.same s1, true, rfl, jE ?_⟩
    refine ⟨_, rfl, _, _, _, _, rfl, rfl, five e s1, qFg, x3, true, rfl, h3.same s1, true, rfl, jE ?_⟩
    rcases h4.wh with ⟨i, rfl, rfl⟩ | ⟨h5, rfl⟩
    · refine ⟨_, rfl, _, _, _, _, rfl, rfl, five e s1, qEh, _, true, rfl, .int i, true, rfl, j9 ?_⟩
      exact ⟨_, rfl, _, _, _, _, rfl, rfl, five e s1, qEh, _, _, rfl, rfl, kk H1 s1⟩
    · exact ⟨_, rfl, _, _, _, _, rfl, rfl, five e s1, qEh, x4, false, rfl, .no (h5.same s1), false, rfl, jE (kk H1 s1)⟩
theorem two : (2 : Nat) ≤ sizeLine := by decide
def GI : Im → Prop
  | .clip n p q r s l => xp n = true ∧ n.length ≤ 8 ∧ Good 40 p q ∧ Good 40 r s ∧ 1 ≤ l ∧ l ≤ 10 ^ 30
  | .nest n b l => xp n = true ∧ n.length ≤ 8 ∧ 0 ≤ b ∧ 1 ≤ l ∧ l ≤ 10 ^ 30
  | .gap l => 1 ≤ l ∧ l ≤ 10 ^ 30
  | .mix l => 1 ≤ l
theorem GI.mo {m : Im} (h : GI m) : 0 ≤ m.mo ∧ m.mo ≤ 10 ^ 30 := by
  cases m with
  | clip n p q r s l => obtain ⟨_, _, _, _, h1, h2⟩ := h; exact ⟨by show 0 ≤ l; omega, h2⟩
  | nest n b l => obtain ⟨_, _, _, h1, h2⟩ := h; exact ⟨by show 0 ≤ l; omega, h2⟩
  | gap l => obtain ⟨h1, h2⟩ := h; exact ⟨by show 0 ≤ l; omega, h2⟩
  | mix l => exact ⟨Int.le_refl _, by show (0 : Int) ≤ 10 ^ 30; decide⟩
theorem qC2 {k : Int} (h0 : 0 ≤ k) (h1 : k < 90) : Good 40 (1 + 2 * k) 2 := by
  refine ⟨by decide, ?_, ?_, by decide⟩
  · have e : Int.gcd (1 + 2 * k) 2 = Int.gcd 2 ((1 + 2 * k).fmod 2) := by rw [zz, Int.gcd_comm]
    have e2 : (1 + 2 * k).fmod 2 = 1 := by rw [Int.fmod_eq_emod_of_nonneg _ (by decide)]; omega
    rw [e, e2]; rfl
  · exact Nat.lt_of_lt_of_le (show (1 + 2 * k).natAbs < 2 ^ 10 by omega) (by decide)
theorem qDh {k : Int} (h0 : 0 ≤ k) (h1 : k < 90) : Good 40 k 1 :=
  ⟨by decide, by simp, Nat.lt_of_lt_of_le (show k.natAbs < 2 ^ 10 by omega) (by decide), by decide⟩
def vg : Sp := fun vs H Q _ => ∃ x c : Int, vs = [.int x, .int c] ∧ 0 ≤ x ∧ ∀ (m : Im) (v : V) (H' : Hp), Same H H' → IsI H' m v → GI m → m.wd ≠ "mix" → Q v H'
theorem vz (T : Tx K mg a) : FnOk P w K mg base CX0 1 a.a__law_part a.f__law_part ["_law_x", "_law_cell"] vg := by
  refine T.d__law_part.F.ok sc__law_part (fun vs H Q E h => ?_) (fun cdv A outer s H vs Q E hr h => ?_)
  · obtain ⟨x, c, rfl, _⟩ := h
    rfl
  obtain ⟨x, c, rfl, x0, kk⟩ := h
  refine ⟨_, (qF (qX (i := 2) sc__law_part.nd rfl (Or.inl rfl) (qP qh (jT (qA (qi (qA qB (qA qB qE))) (qA (qi (qA qB (qA qB qE))) (qA (qi (qA (xX jp qB) (qA qB qE))) (qA (qi (qA qB (qA qB qE))) (qA (qi (qA qB (qA qB qE))) (qA (qi (qA (xX jp qB) (qA qB qE))) qE))))))) (qQ qj (qQ qk (pv 0) qB) qB) (fun _ _ => rfl)))
      (qF (qX (i := 3) sc__law_part.nd rfl (Or.inl rfl) (qP qh (jT (qA (qi (qA qB (qA qB qE))) (qA (qi (qA (qQ qj (qQ qk (pv 0) qB) qB) (qA qB qE))) (qA (qi (qA (qQ jF qB (qQ jV qB (qQ qj (qQ qk (pv 0) qB) qB))) (qA qB qE))) (qA (qi (qA (xX jp qB) (qA qB qE))) qE))))) (qQ qj (qQ qk (pv 0) qB) qB) (fun _ _ => rfl)))
      (qF (qX (i := 4) sc__law_part.nd rfl (Or.inl rfl) (qP qh (jT (qA (qQ jF qB (qQ qj (qQ qk (pv 0) qB) qB)) (qA (qQ jF qB (qQ qj (qQ qk (pv 0) qB) qB)) (qA (qQ jF qB (qQ qj (pv 0) qB)) (qA (qQ jF qB (qQ qj (qQ jF (qQ jV (pv 1) qB) (pv 0)) (qQ qFm qB qB))) qE))))) (qQ qj (qQ qk (pv 0) qB) qB) (fun _ _ => rfl)))
      (qF (qp (qJ j0 (qQ qj (pv 0) qB) qB (qM _)) (qH (qO (qi (qA qY (qA (pv 4) qE))))) qU)
      (qF (qp (qJ j0 (qQ qj (pv 0) qB) qB (qM _)) (qH (qO (qi (qA qY (qA (qP qh (jT (qA qY (qA qY (qA qY qE)))) (qQ qj (qQ qk (pv 0) qB) qB) (fun _ _ => rfl)) (qA (qQ qj (qQ qk (pv 0) qB) qB) (qA (pv 4) qE))))))) qU)
      (qH (qO (qi (qA qY (qA (qP qh (jT (qA qY (qA qY (qA qY qE)))) (qQ qj (qQ qk (pv 0) qB) qB) (fun _ _ => rfl)) (qA (pv 3) (qA (pv 2) (qA (pv 4) qE))))))))))))), ?_⟩
  try dsimp only [xJ, jD]
  refine ⟨two, fun t0 u0 => ⟨two, fun t1 u1 => ⟨_, rfl, two, fun t2 u2 => ⟨two, fun t3 u3 => ⟨two, fun t4 u4 => ⟨_, rfl, two, fun t5 u5 => ⟨(by show 6 ≤ sizeLine; decide), fun lt ut => ?_⟩⟩⟩⟩⟩⟩⟩
  have p0 := qD u0 (.tup [.int 1, .int 1])
  have p1 := qD u1 (.tup [.int 1, .int 2])
  have p2 := qD u2 (.tup [.int (-1), .int 1])
  have p3 := qD u3 (.tup [.int 0, .int 1])
  have p4 := qD u4 (.tup [.int 7, .int 3])
  have p5 := qD u5 (.tup [.int (-30000), .int 1001])
  have p6 := qD ut (.lst [.ref t0, .ref t1, .ref t2, .ref t3, .ref t4, .ref t5])
  have q5 := p6
  have q4 := p5.trans q5
  have q3 := p4.trans q4
  have q2 := p3.trans q3
  have q1 := p2.trans q2
  have q0 := p1.trans q1
  have qz := p0.trans q0
  have i0 := q0 _ _ qC
  have i1 := q1 _ _ qC
  have i2 := q2 _ _ qC
  have i3 := q3 _ _ qC
  have i4 := q4 _ _ qC
  have i5 := q5 _ _ qC
  have it := qC (H := upd (upd (upd (upd (upd (upd H t0 (.tup [.int 1, .int 1])) t1 (.tup [.int 1, .int 2])) t2 (.tup [.int (-1), .int 1])) t3 (.tup [.int 0, .int 1])) t4 (.tup [.int 7, .int 3])) t5 (.tup [.int (-30000), .int 1001])) (a := lt) (o := .lst [.ref t0, .ref t1, .ref t2, .ref t3, .ref t4, .ref t5])
  clear p0 p1 p2 p3 p4 p5 p6 q0 q1 q2 q3 q4 q5
  generalize upd (upd (upd (upd (upd (upd (upd H t0 _) t1 _) t2 _) t3 _) t4 _) t5 _) lt _ = H1 at qz i0 i1 i2 i3 i4 i5 it ⊢
  have f1 := fm (x.fdiv 5) (show (0 : Int) < 6 by decide)
  obtain ⟨v, hv, hvm⟩ := atN (xs := [V.ref t0, .ref t1, .ref t2, .ref t3, .ref t4, .ref t5]) (n := 6) rfl f1.1 f1.2
  refine ⟨_, rfl, _, _, rfl, rfl, cdB (by decide) (by decide), _, _, rfl, rfl, nz, lt, _, _, v, rfl, rfl, SqL.of it, hv, ?_⟩
  obtain ⟨zp, r, s', rfl, ep, gs⟩ : ∃ (zp : Addr) (r s' : Int), v = .ref zp ∧ H1 zp = some (.tup [.int r, .int s']) ∧ Good 40 r s' := by
    simp only [List.mem_cons, List.not_mem_nil, or_false] at hvm
    rcases hvm with rfl | rfl | rfl | rfl | rfl | rfl
    · exact ⟨t0, _, _, rfl, i0, by decide, by decide, by decide, by decide⟩
    · exact ⟨t1, _, _, rfl, i1, by decide, by decide, by decide, by decide⟩
    · exact ⟨t2, _, _, rfl, i2, by decide, by decide, by decide, by decide⟩
    · exact ⟨t3, _, _, rfl, i3, by decide, by decide, by decide, by decide⟩
    · exact ⟨t4, _, _, rfl, i4, by decide, by decide, by decide, by decide⟩
    · exact ⟨t5, _, _, rfl, i5, by decide, by decide, by decide, by decide⟩
  clear hv hvm i0 i1 i2 i3 i4 i5 it
  have f9 := fm (x.fdiv 30) (show (0 : Int) < 90 by decide)
  refine ⟨two, fun t0 u0 => ⟨_, rfl, _, _, rfl, rfl, cdB (by decide) (by decide), _, _, rfl, rfl, nz, two, fun t1 u1 => ⟨_, rfl, _, _, rfl, rfl, cdB (by decide) (by decide), _, _, rfl, rfl, nz, _, _, rfl, rfl, cmL (by decide) (by decide), _, _, rfl, rfl, two, fun t2 u2 => ⟨_, rfl, two, fun t3 u3 => ⟨sL4, fun lt ut => ?_⟩⟩⟩⟩⟩
  have p0 := qD u0 (.tup [.int 0, .int 1])
  have p1 := qD u1 (.tup [.int ((x.fdiv 30).fmod 90), .int 1])
  have p2 := qD u2 (.tup [.int (1 + 2 * (x.fdiv 30).fmod 90), .int 2])
  have p3 := qD u3 (.tup [.int (-5), .int 3])
  have p6 := qD ut (.lst [.ref t0, .ref t1, .ref t2, .ref t3])
  have q3 := p6
  have q2 := p3.trans q3
  have q1 := p2.trans q2
  have q0 := p1.trans q1
  have qy := p0.trans q0
  have i0 := q0 _ _ qC
  have i1 := q1 _ _ qC
  have i2 := q2 _ _ qC
  have i3 := q3 _ _ qC
  have it := qC (H := upd (upd (upd (upd H1 t0 (.tup [.int 0, .int 1])) t1 (.tup [.int ((x.fdiv 30).fmod 90), .int 1])) t2 (.tup [.int (1 + 2 * (x.fdiv 30).fmod 90), .int 2])) t3 (.tup [.int (-5), .int 3])) (a := lt) (o := .lst [.ref t0, .ref t1, .ref t2, .ref t3])
  clear p0 p1 p2 p3 p6 q0 q1 q2 q3
  generalize upd (upd (upd (upd (upd H1 t0 _) t1 _) t2 _) t3 _) lt _ = H2 at qy i0 i1 i2 i3 it ⊢
  have f4 := fm (x.fdiv 30) (show (0 : Int) < 4 by decide)
  obtain ⟨v, hv, hvm⟩ := at4 (x := V.ref t0) (y := .ref t1) (z := .ref t2) (u := .ref t3) f4.1 f4.2
  refine ⟨_, rfl, _, _, rfl, rfl, cdB (by decide) (by decide), _, _, rfl, rfl, nz, lt, _, _, v, rfl, rfl, SqL.of it, hv, ?_⟩
  obtain ⟨zs, p, q, rfl, es, gp⟩ : ∃ (zs : Addr) (p q : Int), v = .ref zs ∧ H2 zs = some (.tup [.int p, .int q]) ∧ Good 40 p q := by
    rcases hvm with rfl | rfl | rfl | rfl
    · exact ⟨t0, _, _, rfl, i0, by decide, by decide, by decide, by decide⟩
    · exact ⟨t1, _, _, rfl, i1, qDh f9.1 f9.2⟩
    · exact ⟨t2, _, _, rfl, i2, qC2 f9.1 f9.2⟩
    · exact ⟨t3, _, _, rfl, i3, by decide, by decide, by decide, by decide⟩
  have ep := qy _ _ ep
  have qz := qz.trans qy
  clear hv hvm i0 i1 i2 i3 it qy
  have f5 := fm (x.fdiv 17) (show (0 : Int) < 9 by decide)
  have f6 := fm x (show (0 : Int) < 5000 by decide)
  have f7 := fm (c * 48271 + x) (show (0 : Int) < 10 ^ (30 : Int).toNat by decide)
  refine ⟨_, rfl, _, _, rfl, rfl, cdB (by decide) (by decide), _, _, rfl, rfl, nz, _, _, rfl, rfl, _, rfl, _, _, rfl, rfl, cdB (by decide) (by decide), _, _, rfl, rfl, nz, _, _, rfl, rfl, ?_⟩
  refine ⟨_, rfl, _, _, rfl, rfl, nz, _, _, rfl, rfl, _, rfl, _, _, rfl, rfl, cmR (by decide) (by decide), _, rfl, _, _, rfl, rfl, _, _, rfl, rfl, cpw (n := 30) (by decide), _, _, rfl, rfl, nz, _, _, rfl, rfl, sL4, fun ll ul => ?_⟩
  have f8 := fm (x.fdiv 11) (show (0 : Int) < 4 by decide)
  obtain ⟨v, hv, hvm⟩ := at4 (x := V.int (1 + (x.fdiv 17).fmod 9)) (y := .int (1 + (x.fdiv 17).fmod 9)) (z := .int (1 + x.fmod 5000)) (u := .int (1 + (c * 48271 + x).fmod (10 ^ (30 : Int).toNat))) f8.1 f8.2
  refine ⟨_, rfl, _, _, rfl, rfl, cdB (by decide) (by decide), _, _, rfl, rfl, nz, ll, _, _, v, rfl, rfl, SqL.of qC, hv, ?_⟩
  have ql := qD ul (.lst [.int (1 + (x.fdiv 17).fmod 9), .int (1 + (x.fdiv 17).fmod 9), .int (1 + x.fmod 5000), .int (1 + (c * 48271 + x).fmod (10 ^ (30 : Int).toNat))])
  obtain ⟨l, rfl, l1, l2⟩ : ∃ l : Int, v = .int l ∧ 1 ≤ l ∧ l ≤ 10 ^ 30 := by
    have e : (10 ^ (30 : Int).toNat : Int) = 10 ^ 30 := rfl
    rcases hvm with rfl | rfl | rfl | rfl
    · exact ⟨_, rfl, by omega, by omega⟩
    · exact ⟨_, rfl, by omega, by omega⟩
    · exact ⟨_, rfl, by omega, by omega⟩
    · exact ⟨_, rfl, by omega, by omega⟩
  have ep := ql _ _ ep
  have es := ql _ _ es
  have qz := qz.trans ql
  clear hv hvm
  generalize upd H2 ll (.lst [.int (1 + (x.fdiv 17).fmod 9), .int (1 + (x.fdiv 17).fmod 9), .int (1 + x.fmod 5000), .int (1 + (c * 48271 + x).fmod (10 ^ (30 : Int).toNat))]) = H3 at ep es qz ⊢
  refine ⟨_, rfl, _, _, rfl, rfl, nz, rfl, _, rfl, zH (fun _ => ?_) (fun _ => ?_)⟩
  · refine ⟨_, rfl, two, fun u hu => ?_⟩
    exact kk (.gap l) _ _ (qz.trans (qD hu _)) ⟨u, rfl, qC⟩ ⟨l1, l2⟩ (by show ("gap" : Str) ≠ "mix"; decide +kernel)
  have f10 := fm (x.fdiv 7) (show (0 : Int) < 3 by decide)
  refine ⟨_, rfl, _, _, rfl, rfl, nz, rfl, _, rfl, zH (fun _ => ?_) (fun _ => ?_)⟩
  · refine ⟨sL3, fun y hy => ?_⟩
    have w3 := qD hy (.lst [.str "t", .str "other", .str "zzzzzzzz"])
    obtain ⟨v, hv, hor⟩ := at3 (x := V.str "t") (y := .str "other") (z := .str "zzzzzzzz") f10.1 f10.2
    have f11 := fm (x.fdiv 19) (show (0 : Int) < 50 by decide)
    refine ⟨_, rfl, _, _, rfl, rfl, cdB (by decide) (by decide), _, _, rfl, rfl, nz, y, _, _, v, rfl, rfl, SqL.of qC, hv, ?_⟩
    refine ⟨_, rfl, _, _, rfl, rfl, cdB (by decide) (by decide), _, _, rfl, rfl, nz, _, rfl, sL4, fun u hu => ?_⟩
    obtain ⟨n, rfl, hn⟩ : ∃ n : Str, v = .str n ∧ (xp n = true ∧ n.length ≤ 8) := by
      rcases hor with rfl | rfl | rfl
      · exact ⟨_, rfl, by decide +kernel⟩
      · exact ⟨_, rfl, by decide +kernel⟩
      · exact ⟨_, rfl, by decide +kernel⟩
    exact kk (.nest n _ l) _ _ ((qz.trans w3).trans (qD hu _)) ⟨u, rfl, qC⟩ ⟨hn.1, hn.2, f11.1, l1, l2⟩ (by show ("nest" : Str) ≠ "mix"; decide +kernel)
  refine ⟨sL3, fun y hy => ?_⟩
  have w3 := qD hy (.lst [.str "a", .str "reel", .str "abcdefgh"])
  obtain ⟨v, hv, hor⟩ := at3 (x := V.str "a") (y := .str "reel") (z := .str "abcdefgh") f10.1 f10.2
  refine ⟨_, rfl, _, _, rfl, rfl, cdB (by decide) (by decide), _, _, rfl, rfl, nz, y, _, _, v, rfl, rfl, SqL.of qC, hv, _, rfl, _, rfl, _, rfl, sL5, fun u hu => ?_⟩
  obtain ⟨n, rfl, hn⟩ : ∃ n : Str, v = .str n ∧ (xp n = true ∧ n.length ≤ 8) := by
    rcases hor with rfl | rfl | rfl
    · exact ⟨_, rfl, by decide +kernel⟩
    · exact ⟨_, rfl, by decide +kernel⟩
    · exact ⟨_, rfl, by decide +kernel⟩
  have w6 := qD hu (.tup [.str "clip", .str n, .ref zs, .ref zp, .int l])
  exact kk (.clip n p q r s' l) _ _ ((qz.trans w3).trans w6) ⟨u, zs, zp, rfl, qC, w6 _ _ (w3 _ _ es), w6 _ _ (w3 _ _ ep)⟩ ⟨hn.1, hn.2, gp, gs, l1, l2⟩ (by show ("clip" : Str) ≠ "mix"; decide +kernel)
theorem z6 (m : Im) : m.wd ≠ "end" := by
  cases m with
  | clip => show ("clip" : Str) ≠ "end"; decide +kernel
  | nest => show ("nest" : Str) ≠ "end"; decide +kernel
  | gap => show ("gap" : Str) ≠ "end"; decide +kernel
  | mix => show ("mix" : Str) ≠ "end"; decide +kernel
def wS (a k : Str) : Bool := if a = "mix" then decide (k = "clip") else if k = "mix" then decide (a = "clip") else !(decide (a = "gap") && (decide (k = "gap") || decide (k = "end")))
def qr (a : Str) (ms : List Im) : Str := match ms.getLast? with | none => a | some m => m.wd
def Chn : Str → List Im → Prop
  | _, [] => True
  | a, m :: ms => wS a m.wd = true ∧ Chn m.wd ms
theorem kh (a : Str) (ms : List Im) (m : Im) : qr a (ms ++ [m]) = m.wd := by unfold qr; rw [List.getLast?_append]; rfl
theorem zJ (a : Str) (m : Im) (ms : List Im) : qr a (m :: ms) = qr m.wd ms := by
  unfold qr
  cases ms with
  | nil => rfl
  | cons x xs => rw [List.getLast?_cons_cons]; cases h : (x :: xs).getLast? <;> simp_all
theorem Chn.snoc : ∀ {a : Str} {ms : List Im} {m : Im}, Chn a ms → wS (qr a ms) m.wd = true → Chn a (ms ++ [m])
  | a, [], m, _, h => ⟨h, trivial⟩
  | a, x :: ms, m, h, h' => ⟨h.1, Chn.snoc h.2 (by rw [← zJ a]; exact h')⟩
theorem Chn.dl : ∀ {a : Str} {ms : List Im}, Chn a ms → Chn a ms.dropLast
  | _, [], _ => trivial
  | _, [_], _ => trivial
  | _, _ :: _ :: _, h => ⟨h.1, Chn.dl h.2⟩
theorem Chn.last : ∀ {a : Str} {ms : List Im} {m : Im}, Chn a ms → ms.getLast? = some m → wS (qr a ms.dropLast) m.wd = true
  | _, [], _, _, h => by simp at h
  | a, [x], m, h, e => by
    have : x = m := by simpa using e
    subst this
    exact h.1
  | a, x :: y :: ms, m, h, e => by
    have := Chn.last (a := x.wd) (ms := y :: ms) (m := m) h.2 (by rw [List.getLast?_cons_cons] at e; exact e)
    rw [List.dropLast_cons₂, zJ]
    exact this
def vA (K : W.Frag) : Sp := fun vs H Q _ => ∃ (z : Addr) (ns : List Int), vs = [.ref z] ∧ SqL K H z (ns.map V.int) ∧ ns.length ≤ 63 ∧ ∀ (y : Addr) (ms : List Im) (H' : Hp), Same H H' → H y = none → Tr H' y ms → ms.length ≤ 126 → (∀ m ∈ ms, GI m) → Chn "" ms → qr "" ms ≠ "mix" → qr "" ms ≠ "gap" → Q (.ref y) H'
theorem vE (T : Tx K mg a) : FnOk P w K mg base CX0 2 a.a__law_track a.f__law_track ["_law_cells"] (vA K) := by
  refine T.d__law_track.F.ok sc__law_track (fun vs H Q E h => ?_) (fun cdv A outer s H vs Q E hr h => ?_)
  · obtain ⟨z, ns, rfl, _⟩ := h
    rfl
  obtain ⟨z, ns, rfl, hS, hlen, kk⟩ := h
  have hu := hr.units
  refine ⟨_, (qF (qX (i := 1) sc__law_track.nd rfl (Or.inl rfl) (jT qE))
      (qF (zG PassesOwn.never rfl (x9 rfl T.b_range (qA (qZ jI rfl T.b_len rfl (qA (pv 0) qE)) qE)) (qo (i := 2) sc__law_track.nd rfl (Or.inl rfl)) (qF (qX (i := 3) sc__law_track.nd rfl (Or.inl rfl) (qP qh (qI T.d__law_drawn (xV T) hr rfl (qA (qQ jF (qP qh (pv 0) (pv 2) (fun _ _ => rfl)) (qQ jV qB (pv 2))) (qA qB qE))) qB (fun _ _ => rfl)))
      (qF (qX (i := 4) sc__law_track.nd rfl (Or.inl rfl) (qI T.d__law_part (vz T) hr rfl (qA (pv 3) (qA (qP qh (pv 0) (pv 2) (fun _ _ => rfl)) qE))))
      (qF (wV (qp (ku (PW.pt (zZ (qJ j0 (qP qN (pv 4) qB (fun _ _ => rfl)) qY (qM _)) (zZ (qJ (kR hu) (pv 1) (jT qE) (qM _)) (zZ (qJ j0 (qP qN (qP qh (pv 1) (xX jp qB) (fun _ _ => rfl)) qB (fun _ _ => rfl)) qY (qM _)) (vU (qJ qA2 (qQ qj (pv 3) qB) qB (qM _)))))))) (qH (je (zu F.plainAttrs_list F.slot_list_append F.type_list_append jL (pv 1) (qA (qi (qA qY (qA (qQ jF qB (qQ qj (qQ qk (pv 3) qB) qB)) qE))) qE)))) qU))
      (qH (qp (ku (PW.pt (j4 (qJ xb (qP qN (pv 4) qB (fun _ _ => rfl)) qY (qM _)) (j4 (qJ (v9 hu) (pv 1) (jT qE) (qM _)) (jm (qJ xb (qP qN (qP qh (pv 1) (xX jp qB) (fun _ _ => rfl)) qB (fun _ _ => rfl)) qY (qM _))))))) (qH (je (zu F.plainAttrs_list F.slot_list_append F.type_list_append jL (pv 1) (qA (pv 4) qE)))) qU))))))
      (qF (qp (ku (PW.pt (zZ (qJ (kR hu) (pv 1) (jT qE) (qM _)) (vU (qJ j0 (qP qN (qP qh (pv 1) (xX jp qB) (fun _ _ => rfl)) qB (fun _ _ => rfl)) qY (qM _)))))) (qH (je (qDs F.plainAttrs_list F.slot_list_pop F.type_list_pop qD0 (pv 1)))) qU)
      (qH (qO (pv 1)))))), ?_⟩
  try dsimp only [xJ, jD]
  refine ⟨sL0, fun y hy => ?_⟩
  have w0 := qD hy (.lst [])
  have hml : (ns.map V.int).length = ns.length := List.length_map _
  refine ⟨_, rfl, z, _, rfl, .inl (w0.seq hS), _, rfl, by omega, by omega, zA (n := (((ns.map V.int).length : Nat) : Int).toNat) (fun i σ H' => ∃ (o1 o2 o3 : Option V) (ms : List Im) (vs : List V), σ = [some (.ref z), some (.ref y), o1, o2, o3] ∧ H' y = some (.lst vs) ∧ IsIs H' ms vs ∧ ms.length ≤ 2 * i ∧ (∀ m ∈ ms, GI m) ∧ Chn "" ms ∧ qr "" ms ≠ "mix" ∧ Same H H')
    ⟨none, none, none, [], [], rfl, qC, trivial, by simp, by simp, trivial, by decide +kernel, w0⟩ ?_ ?_⟩
  · rintro i σ H' hi ⟨o1, o2, o3, ms, vs, rfl, hv, hiv, hml', hg, hc, hnm, e⟩
    have hi' : i < ns.length := by omega
    have at1' : atI (ns.map V.int) (0 + (i : Int)) = some (.int ns[i]) := by
      rw [Int.zero_add]
      exact zN (by rw [List.getElem?_map, List.getElem?_eq_getElem hi']; rfl)
    have hvl : vs.length ≤ 2 * i := by rw [hiv.len]; exact hml'
    refine ⟨_, rfl, _, rfl, z, _, _, _, rfl, rfl, e.seq hS, at1', _, rfl, _, _, rfl, rfl, cmL (by decide) (by decide), _, _, rfl, rfl, _, 3, rfl, by decide, by decide, fun zx xs hzx hxl hx => ?_⟩
    have w1 := qD hzx (.lst (xs.map V.int))
    obtain ⟨x0, x1, x2, rfl⟩ : ∃ x0 x1 x2 : Int, xs = [x0, x1, x2] := by
      match xs, hxl with
      | [x0, x1, x2], _ => exact ⟨x0, x1, x2, rfl⟩
    have b2 := hx x2 (by simp)
    refine ⟨zx, _, _, .int x2, rfl, rfl, SqL.of qC, rfl, ?_⟩
    refine ⟨_, rfl, _, rfl, _, rfl, z, _, _, _, rfl, rfl, (e.trans w1).seq hS, at1', x2, _, rfl, b2.1, fun m v H2 w2 hI hGm hmm => ?_⟩
    have w12 := w1.trans w2
    have hv := w12 _ _ hv
    have hiv := hiv.ts (qK w12)
    have e2 := e.trans w12
    obtain ⟨zi, xi, rfl, hzi, h0, _⟩ := hI.opn
    refine ⟨fun σ H4 => ∃ (ms2 : List Im) (vs2 : List V), σ = [some (.ref z), some (.ref y), some (.int (0 + (i : Int))), some (.int x2), some (.ref zi)] ∧ H4 y = some (.lst vs2) ∧ IsIs H4 ms2 vs2 ∧ ms2.length ≤ 2 * i + 1 ∧ (∀ m ∈ ms2, GI m) ∧ Chn "" ms2 ∧ (qr "" ms2 = "mix" → m.wd = "clip") ∧ IsI H4 m (.ref zi) ∧ Same H H4, ?_, ?_⟩
    · refine ⟨fun b H3 => Same H2 H3 ∧ (b = true → m.wd = "clip" ∧ qr "" ms = "clip"), ?_, ?_⟩
      · refine ⟨_, rfl, zi, xi, _, _, rfl, rfl, SqT.of hzi, h0, rfl, _, rfl, zH (fun c => ?_) (fun _ => ⟨Same.refl _, fun z => by cases z⟩)⟩
        have hmc : m.wd = "clip" := by simpa using c
        refine ⟨_, rfl, sL0, fun en hen => qC1 ⟨vs, (qD hen _) _ _ hv, hiv.ts (qK (qD hen _))⟩ qC ⟨_, rfl, ?_⟩⟩
        have w3 := qD hen (.lst [])
        cases hms : ms with
        | nil => exact jE ⟨w3, fun z => by cases z⟩
        | cons m0 ms0 =>
          refine j9 ?_
          obtain ⟨v, m', h1, h2, _, h4⟩ := (hiv.ts (qK w3)).last (by rw [hms]; simp)
          obtain ⟨zl, xl, rfl, hzl, hl0, _⟩ := h4.opn
          refine ⟨_, rfl, _, rfl, y, _, _, _, rfl, rfl, SqL.of (w3 _ _ hv), xE h1, zl, xl, _, _, rfl, rfl, SqT.of hzl, hl0, rfl, _, rfl, zH (fun c => ?_) (fun _ => ⟨w3, fun z => by cases z⟩)⟩
          have hlc : qr "" ms = "clip" := by unfold qr; rw [h2]; simpa using c
          exact ⟨_, rfl, _, _, rfl, rfl, nz, _, _, rfl, rfl, _, rfl, w3, fun _ => ⟨hmc, by rw [← hms]; exact hlc⟩⟩
      rintro b H3 ⟨w3, hb⟩
      have e3 := e2.trans w3
      have hv := w3 _ _ hv
      have hiv := hiv.ts (qK w3)
      have hI := hI.ts (qK w3)
      cases b with
      | false => exact jE ⟨ms, vs, rfl, hv, hiv, by omega, hg, hc, fun z => absurd z hnm, hI, e3⟩
      | true =>
        obtain ⟨hmc, hlc⟩ := hb rfl
        have f9 := fm (x2.fdiv 23) (show (0 : Int) < 9 by decide)
        refine j9 ⟨_, rfl, .inl ⟨rfl, _, SqL.of hv⟩, _, rfl, _, _, rfl, rfl, cdB (by decide) (by decide), _, _, rfl, rfl, nz, _, _, rfl, rfl, two, fun g hgn => ?_⟩
        have w4 := qD hgn (.tup [.str "mix", .int (1 + (x2.fdiv 23).fmod 9)])
        refine ⟨y, _, _, rfl, rfl, w4 _ _ hv, qd (by omega), ?_⟩
        refine ⟨ms ++ [.mix (1 + (x2.fdiv 23).fmod 9)], _, rfl, qC, ((hiv.ts (qK w4)).app (.one (isM qC))).ts (j2 (w4 _ _ hv)), by simp; omega, ?_, hc.snoc ?_, fun _ => hmc, (hI.ts (qK w4)).ts (j2 (w4 _ _ hv)), jY (e3.trans w4) hy⟩
        · intro m hm
          rcases List.mem_append.mp hm with hm | hm
          · exact hg m hm
          · have : m = .mix (1 + (x2.fdiv 23).fmod 9) := by simpa using hm
            rw [this]; show 1 ≤ 1 + (x2.fdiv 23).fmod 9; omega
        · rw [hlc]; show wS "clip" "mix" = true; decide +kernel
    rintro σ H4 ⟨ms2, vs2, rfl, hv, hiv, hml2, hg2, hc2, hlm, hI, e4⟩
    have hvl2 : vs2.length ≤ 2 * i + 1 := by rw [hiv.len]; exact hml2
    obtain ⟨zi', xi', ez, hzi, h0, _⟩ := hI.opn
    cases ez
    refine ⟨fun b H5 => Same H4 H5 ∧ (b = true → m.wd = "gap" → qr "" ms2 ≠ "gap") ∧ (b = false → m.wd = "gap"), ?_, ?_⟩
    · refine ⟨_, rfl, zi, xi', _, _, rfl, rfl, SqT.of hzi, h0, rfl, _, rfl, zH (fun c => ⟨Same.refl _, fun _ z => ?_, fun z => by cases z⟩) (fun c => ?_)⟩
      · rw [z] at c; exact absurd c (by decide +kernel)
      have hmg : m.wd = "gap" := by simpa using c
      refine ⟨_, rfl, sL0, fun en hen => qFd ⟨vs2, (qD hen _) _ _ hv, hiv.ts (qK (qD hen _))⟩ qC ⟨_, rfl, ?_⟩⟩
      have w5 := qD hen (.lst [])
      cases hms : ms2 with
      | nil => exact j9 ⟨w5, fun _ _ => by decide +kernel, fun z => by cases z⟩
      | cons m0 ms0 =>
        refine jE ?_
        obtain ⟨v, m', h1, h2, _, h4⟩ := (hiv.ts (qK w5)).last (by rw [hms]; simp)
        obtain ⟨zl, xl, rfl, hzl, hl0, _⟩ := h4.opn
        refine ⟨_, rfl, _, rfl, y, _, _, _, rfl, rfl, SqL.of (w5 _ _ hv), xE h1, zl, xl, _, _, rfl, rfl, SqT.of hzl, hl0, rfl, _, rfl, w5, fun c _ => ?_, fun _ => hmg⟩
        have : qr "" ms2 = m'.wd := by unfold qr; rw [h2]
        rw [← hms, this]
        simpa using c
    rintro b H5 ⟨w5, hb1, hb2⟩
    have e5 := e4.trans w5
    have hv := w5 _ _ hv
    have hiv := hiv.ts (qK w5)
    have hI := hI.ts (qK w5)
    cases b with
    | false =>
      have hmg := hb2 rfl
      refine jE ⟨_, _, _, ms2, vs2, rfl, hv, hiv, by omega, hg2, hc2, fun z => ?_, e5⟩
      have := hlm z
      rw [hmg] at this
      exact absurd this (by decide +kernel)
    | true =>
      refine j9 ⟨_, rfl, .inl ⟨rfl, _, SqL.of hv⟩, _, rfl, y, _, _, rfl, rfl, hv, qd (by omega), ?_⟩
      refine ⟨_, _, _, ms2 ++ [m], _, rfl, qC, (hiv.app (.one hI)).ts (j2 hv), by simp; omega, ?_, hc2.snoc ?_, by rw [kh]; exact hmm, jY e5 hy⟩
      · intro x hx
        rcases List.mem_append.mp hx with hx | hx
        · exact hg2 x hx
        · have : x = m := by simpa using hx
          rw [this]; exact hGm
      · unfold wS
        by_cases c1 : qr "" ms2 = "mix"
        · rw [if_pos c1, hlm c1]; decide +kernel
        rw [if_neg c1, if_neg hmm]
        by_cases c2 : m.wd = "gap"
        · have := hb1 rfl c2
          simp [this]
        · have c3 := z6 m
          simp [c2, c3]
  · rintro σ H' ⟨o1, o2, o3, ms, vs, rfl, hv, hiv, hml', hg, hc, hnm, e⟩
    have hvl : vs.length ≤ 126 := by rw [hiv.len]; omega
    refine ⟨fun b H3 => Same H' H3 ∧ (b = true → ∃ l, ms.getLast? = some (.gap l)) ∧ (b = false → qr "" ms ≠ "gap"), ?_, ?_⟩
    · refine ⟨_, rfl, sL0, fun en hen => qC1 ⟨vs, (qD hen _) _ _ hv, hiv.ts (qK (qD hen _))⟩ qC ⟨_, rfl, ?_⟩⟩
      have w3 := qD hen (.lst [])
      cases hms : ms with
      | nil => exact jE ⟨w3, (fun z => by cases z), fun _ => by decide +kernel⟩
      | cons m0 ms0 =>
        refine j9 ?_
        obtain ⟨v, m', h1, h2, _, h4⟩ := (hiv.ts (qK w3)).last (by rw [hms]; simp)
        obtain ⟨zl, xl, rfl, hzl, hl0, _⟩ := h4.opn
        refine ⟨_, rfl, _, rfl, y, _, _, _, rfl, rfl, SqL.of (w3 _ _ hv), xE h1, zl, xl, _, _, rfl, rfl, SqT.of hzl, hl0, rfl, _, rfl, w3, fun c => ?_, fun c => ?_⟩
        · obtain ⟨l, rfl⟩ := qF6 (m := m') (by simpa using c)
          exact ⟨l, by rw [← hms]; exact h2⟩
        · have : qr "" ms = m'.wd := by unfold qr; rw [h2]
          rw [← hms, this]
          simpa using c
    rintro b H3 ⟨w3, hb1, hb2⟩
    have e3 := e.trans w3
    have hv := w3 _ _ hv
    have hiv := hiv.ts (qK w3)
    cases b with
    | false => exact jE ⟨_, rfl, kk y ms H3 e3 hy ⟨vs, hv, hiv⟩ (by omega) hg hc hnm (hb2 rfl)⟩
    | true =>
      obtain ⟨l, hgl⟩ := hb1 rfl
      have hne : ms ≠ [] := by intro z; rw [z] at hgl; cases hgl
      have hvne : vs ≠ [] := by intro z; have := hiv.len; rw [z] at this; exact hne (List.length_eq_zero_iff.mp this.symm)
      have hmay := hc.last hgl
      obtain ⟨lv, hlv⟩ : ∃ v, vs[vs.length - 1]? = some v := ⟨_, List.getElem?_eq_getElem (by have := List.length_pos_iff.mpr hvne; omega)⟩
      refine j9 ⟨_, rfl, .inl ⟨rfl, _, SqL.of hv⟩, y, vs, lv, rfl, rfl, hv, hlv, ?_⟩
      have hl1 : qr "" ms.dropLast ≠ "mix" := by
        intro z; rw [z] at hmay; exact absurd hmay (by show ¬ wS "mix" "gap" = true; decide +kernel)
      have hl2 : qr "" ms.dropLast ≠ "gap" := by
        intro z; rw [z] at hmay; exact absurd hmay (by show ¬ wS "gap" "gap" = true; decide +kernel)
      exact ⟨_, rfl, kk y ms.dropLast _ (jY e3 hy) hy ⟨vs.dropLast, qC, hiv.dl.ts (j2 hv)⟩ (by rw [List.length_dropLast]; omega) (fun m hm => hg m (List.dropLast_subset _ hm)) hc.dl hl1 hl2⟩
def RtF (p q : Int) : Prop := (q = 1 ∧ 1 ≤ p ∧ p ≤ 900) ∨ (p = 30000 ∧ q = 1001) ∨ (p = 1 ∧ q = 3) ∨ (p = 24000 ∧ q = 1001)
def ve : Sp := fun vs H Q _ => ∃ x : Int, vs = [.int x] ∧ ∀ (v : V) (p q : Int) (H' : Hp), Same H H' → Rate H' v p q → RtF p q → Q v H'
theorem zU (T : Tx K mg a) : FnOk P w K mg base CX0 1 a.a__law_rate a.f__law_rate ["_law_x"] ve := by
  refine T.d__law_rate.F.ok wN (fun vs H Q E h => ?_) (fun cdv A outer s H vs Q E hr h => ?_)
  · obtain ⟨x, rfl, _⟩ := h
    rfl
  obtain ⟨x, rfl, kk⟩ := h
  refine ⟨_, (qH (qO (qP qh (jT (qA (qi (qA qB (qA qB qE))) (qA (qi (qA qB (qA qB qE))) (qA (qi (qA qB (qA qB qE))) (qA (qi (qA qB (qA qB qE))) (qA (qi (qA qB (qA qB qE))) (qA (qi (qA qB (qA qB qE))) (qA (qi (qA (qQ jF qB (qQ qj (qQ qk (pv 0) qB) qB)) (qA qB qE))) (qA (qi (qA qB (qA qB qE))) qE))))))))) (qQ qj (pv 0) qB) (fun _ _ => rfl)))), ?_⟩
  try dsimp only [xJ, jD]
  refine ⟨two, fun t0 u0 => ⟨two, fun t1 u1 => ⟨two, fun t2 u2 => ⟨two, fun t3 u3 => ⟨two, fun t4 u4 => ⟨two, fun t5 u5 => ⟨_, rfl, _, _, rfl, rfl, cdB (by decide) (by decide), _, _, rfl, rfl, nz, _, _, rfl, rfl, two, fun t6 u6 => ⟨two, fun t7 u7 => ⟨(by show 8 ≤ sizeLine; decide), fun lt ut => ?_⟩⟩⟩⟩⟩⟩⟩⟩⟩
  have f9 := fm (x.fdiv 8) (show (0 : Int) < 900 by decide)
  have p0 := qD u0 (.tup [.int 24, .int 1])
  have p1 := qD u1 (.tup [.int 25, .int 1])
  have p2 := qD u2 (.tup [.int 30000, .int 1001])
  have p3 := qD u3 (.tup [.int 1, .int 3])
  have p4 := qD u4 (.tup [.int 60, .int 1])
  have p5 := qD u5 (.tup [.int 24000, .int 1001])
  have p6 := qD u6 (.tup [.int (1 + (x.fdiv 8).fmod 900), .int 1])
  have p7 := qD u7 (.tup [.int 12, .int 1])
  have p8 := qD ut (.lst [.ref t0, .ref t1, .ref t2, .ref t3, .ref t4, .ref t5, .ref t6, .ref t7])
  have q7 := p8
  have q6 := p7.trans q7
  have q5 := p6.trans q6
  have q4 := p5.trans q5
  have q3 := p4.trans q4
  have q2 := p3.trans q3
  have q1 := p2.trans q2
  have q0 := p1.trans q1
  have qz := p0.trans q0
  have i0 := q0 _ _ qC
  have i1 := q1 _ _ qC
  have i2 := q2 _ _ qC
  have i3 := q3 _ _ qC
  have i4 := q4 _ _ qC
  have i5 := q5 _ _ qC
  have i6 := q6 _ _ qC
  have i7 := q7 _ _ qC
  have it := qC (H := upd (upd (upd (upd (upd (upd (upd (upd H t0 (.tup [.int 24, .int 1])) t1 (.tup [.int 25, .int 1])) t2 (.tup [.int 30000, .int 1001])) t3 (.tup [.int 1, .int 3])) t4 (.tup [.int 60, .int 1])) t5 (.tup [.int 24000, .int 1001])) t6 (.tup [.int (1 + (x.fdiv 8).fmod 900), .int 1])) t7 (.tup [.int 12, .int 1])) (a := lt) (o := .lst [.ref t0, .ref t1, .ref t2, .ref t3, .ref t4, .ref t5, .ref t6, .ref t7])
  clear p0 p1 p2 p3 p4 p5 p6 p7 p8 q0 q1 q2 q3 q4 q5 q6 q7
  generalize upd (upd (upd (upd (upd (upd (upd (upd (upd H t0 _) t1 _) t2 _) t3 _) t4 _) t5 _) t6 _) t7 _) lt _ = H1 at qz i0 i1 i2 i3 i4 i5 i6 i7 it ⊢
  have f1 := fm x (show (0 : Int) < 8 by decide)
  obtain ⟨v, hv, hvm⟩ := atN (xs := [V.ref t0, .ref t1, .ref t2, .ref t3, .ref t4, .ref t5, .ref t6, .ref t7]) (n := 8) rfl f1.1 f1.2
  refine ⟨_, rfl, _, _, rfl, rfl, nz, lt, _, _, v, rfl, rfl, SqL.of it, hv, ?_⟩
  obtain ⟨p, q, hR, hF⟩ : ∃ (p q : Int), Rate H1 v p q ∧ RtF p q := by
    simp only [List.mem_cons, List.not_mem_nil, or_false] at hvm
    rcases hvm with rfl | rfl | rfl | rfl | rfl | rfl | rfl | rfl
    · exact ⟨_, _, ⟨⟨t0, rfl, i0⟩, by decide, by decide, by decide, by decide, by decide⟩, .inl ⟨rfl, by decide, by decide⟩⟩
    · exact ⟨_, _, ⟨⟨t1, rfl, i1⟩, by decide, by decide, by decide, by decide, by decide⟩, .inl ⟨rfl, by decide, by decide⟩⟩
    · exact ⟨_, _, ⟨⟨t2, rfl, i2⟩, by decide, by decide, by decide, by decide, by decide⟩, .inr (.inl ⟨rfl, rfl⟩)⟩
    · exact ⟨_, _, ⟨⟨t3, rfl, i3⟩, by decide, by decide, by decide, by decide, by decide⟩, .inr (.inr (.inl ⟨rfl, rfl⟩))⟩
    · exact ⟨_, _, ⟨⟨t4, rfl, i4⟩, by decide, by decide, by decide, by decide, by decide⟩, .inl ⟨rfl, by decide, by decide⟩⟩
    · exact ⟨_, _, ⟨⟨t5, rfl, i5⟩, by decide, by decide, by decide, by decide, by decide⟩, .inr (.inr (.inr ⟨rfl, rfl⟩))⟩
    · exact ⟨_, _, ⟨⟨t6, rfl, i6⟩, by omega, by decide, by simp, by omega, by decide⟩, .inl ⟨rfl, by omega, by omega⟩⟩
    · exact ⟨_, _, ⟨⟨t7, rfl, i7⟩, by decide, by decide, by decide, by decide, by decide⟩, .inl ⟨rfl, by decide, by decide⟩⟩
  exact kk v p q H1 qz hR hF
theorem qEw {P Q b : Int} (h : 0 < Q) : 0 ≤ (wpP P Q b).fmod (wpQ P Q b) ∧ (wpP P Q b).fmod (wpQ P Q b) < wpQ P Q b := fm _ (wT h)
theorem qEz {b r0 r1 o0 o1 : Int} (h1 : 0 < r0) (h2 : 0 < o1) :
    ((wpP (byP r0 r1 o0 o1) (byQ r0 r1 o0 o1) b).fdiv (wpQ (byP r0 r1 o0 o1) (byQ r0 r1 o0 o1) b) * wpQ (byP r0 r1 o0 o1) (byQ r0 r1 o0 o1) b + (wpP (byP r0 r1 o0 o1) (byQ r0 r1 o0 o1) b).fmod (wpQ (byP r0 r1 o0 o1) (byQ r0 r1 o0 o1) b)) * r0 * o1 = b * o0 * r1 * wpQ (byP r0 r1 o0 o1) (byQ r0 r1 o0 o1) b := by
  have hne := qEr h1 h2
  have e1 : byP r0 r1 o0 o1 * (o1 * r0) = o0 * r1 * byQ r0 r1 o0 o1 := j1 _ _
  have q0 : 0 < byQ r0 r1 o0 o1 := jX hne
  generalize byP r0 r1 o0 o1 = BP at *
  generalize byQ r0 r1 o0 o1 = BQ at *
  have e2 : jO b 1 * 1 = b * qm b 1 := j1 _ _
  have q1 : 0 < qm b 1 := jX (by decide)
  have e3 : wpP BP BQ b * (qm b 1 * BQ) = jO b 1 * BP * wpQ BP BQ b := j1 _ _
  have ed : (wpP BP BQ b).fdiv (wpQ BP BQ b) * wpQ BP BQ b + (wpP BP BQ b).fmod (wpQ BP BQ b) = wpP BP BQ b := by
    have := Int.mul_fdiv_add_fmod (wpP BP BQ b) (wpQ BP BQ b)
    rw [Int.mul_comm] at this
    exact this
  rw [ed]
  generalize wpP BP BQ b = X at *
  generalize wpQ BP BQ b = Y at *
  generalize jO b 1 = U at *
  generalize qm b 1 = W at *
  have hw : W * BQ ≠ 0 := Int.mul_ne_zero (by omega) (by omega)
  refine Int.eq_of_mul_eq_mul_right hw ?_
  have a1 : X * r0 * o1 * (W * BQ) = X * (W * BQ) * (o1 * r0) := by grind
  have a2 : U * BP * Y * (o1 * r0) = U * Y * (BP * (o1 * r0)) := by grind
  rw [a1, e3, a2, e1]
  have a3 : U = b * W := by rw [← e2]; omega
  rw [a3]
  grind
def vy : Sp := fun vs H Q _ => ∃ i : Int, vs = [.int i] ∧ 1 ≤ i ∧ Q (.bl true) H
theorem zW (T : Tx K mg a) : FnOk P w K mg base CX0 2 a.a_is_length a.f_is_length ["thing"] vy := by
  refine T.d_is_length.F.ok wP (fun vs H Q E h => ?_) (fun cdv A outer s H vs Q E hr h => ?_)
  · obtain ⟨i, rfl, _⟩ := h
    rfl
  obtain ⟨i, rfl, i1, q⟩ := h
  refine ⟨_, (qH (qO (xq (qI T.d_is_whole (xC T) hr rfl (qA (pv 0) qE)) (xf (jW qCw (pv 0) qB (qM _)))))), ?_⟩
  try dsimp only [xJ, jD]
  rw [← decide_eq_true i1] at q
  exact ⟨_, rfl, i, rfl, true, rfl, j9 ⟨_, rfl, _, _, rfl, rfl, q⟩⟩
def zv : Sp := fun vs H Q _ => ∃ (z : Addr) (n : Str) (b l : Int), vs = [.ref z] ∧ H z = some (.tup [.str "nest", .str n, .int b, .int l]) ∧ xp n = true ∧ n.length ≤ 1000 ∧ 0 ≤ b ∧ 1 ≤ l ∧ ∀ H', Same H H' → Q (.bl true) H'
theorem ze (T : Tx K mg a) : FnOk P w K mg base CX0 3 a.a_has_nest_form a.f_has_nest_form ["item"] zv := by
  refine T.d_has_nest_form.F.ok zn (fun vs H Q E h => ?_) (fun cdv A outer s H vs Q E hr h => ?_)
  · obtain ⟨z, n, b, l, rfl, _⟩ := h
    rfl
  obtain ⟨z, n, b, l, rfl, hz, hn, hl, b0, l1, kk⟩ := h
  refine ⟨_, (qF (qp (PW.pt (j4 (jS (jK (qZ jB rfl T.b_isinstance rfl (qA (pv 0) (qA (zg rfl T.b_tuple rfl) qE))))) (jm (qJ xb (qZ jI rfl T.b_len rfl (qA (pv 0) qE)) qB (qM _))))) (qH (qO xW)) qU)
      (qF (qp (PW.pt (j4 (qJ xb (qP qN (pv 0) qB (fun _ _ => rfl)) qY (qM _)) (jm (jS (jK (qI T.d_is_name (zT T) hr rfl (qA (qP qN (pv 0) qB (fun _ _ => rfl)) qE))))))) (qH (qO xW)) qU)
      (qH (qO (xq (qI T.d_is_whole (xC T) hr rfl (qA (qP qN (pv 0) qB (fun _ _ => rfl)) qE)) (xq (jW qCw (qP qN (pv 0) qB (fun _ _ => rfl)) qB (qM _)) (xf (qI T.d_is_length (zW T) hr rfl (qA (qP qN (pv 0) qB (fun _ _ => rfl)) qE))))))))), ?_⟩
  try dsimp only [xJ, jD]
  have nm := NmB.str (K := K) (H := H) n hl
  rw [hn] at nm
  refine ⟨_, rfl, _, _, _, true, rfl, .tup hz, ⟨_, .inl ⟨rfl, by kernel_rfl⟩⟩, true, rfl, jE ?_⟩
  refine ⟨_, rfl, _, _, rfl, .inr (SqT.of hz), rfl, _, rfl, jE ?_⟩
  refine ⟨_, rfl, _, _, _, _, rfl, rfl, SqT.of hz, rfl, rfl, _, rfl, qCg rfl ?_⟩
  refine ⟨_, rfl, _, _, _, _, rfl, rfl, SqT.of hz, rfl, _, true, rfl, nm, fun H1 s1 => ⟨true, rfl, jE ?_⟩⟩
  have hz1 : SqT K H1 z [.str "nest", .str n, .int b, .int l] := SqT.of (s1 _ _ hz)
  refine ⟨_, rfl, _, _, _, _, rfl, rfl, hz1, rfl, b, rfl, true, rfl, j9 ?_⟩
  refine ⟨_, rfl, _, _, _, _, rfl, rfl, hz1, rfl, _, _, rfl, rfl, true, congrArg V.bl (decide_eq_true b0), j9 ?_⟩
  exact ⟨_, rfl, _, _, _, _, rfl, rfl, hz1, rfl, l, rfl, l1, kk _ s1⟩
def xY (K : W.Frag) : Sp := fun vs H Q _ => ∃ (z : Addr) (l : Int), vs = [.ref z] ∧ SqT K H z [.str "mix", .int l] ∧ 1 ≤ l ∧ ∀ H', Same H H' → Q (.bl true) H'
theorem xa (T : Tx K mg a) : FnOk P w K mg base CX0 3 a.a_has_gap_or_mix_form a.f_has_gap_or_mix_form ["item"] (xY K) := by
  refine T.d_has_gap_or_mix_form.F.ok xZ (fun vs H Q E h => ?_) (fun cdv A outer s H vs Q E hr h => ?_)
  · obtain ⟨z, l, rfl, _⟩ := h
    rfl
  obtain ⟨z, l, rfl, hz, l1, kk⟩ := h
  refine ⟨_, (qF (qp (PW.pt (j4 (jS (jK (qZ zV rfl T.b_isinstance rfl (qA (pv 0) (qA (zg rfl T.b_tuple rfl) qE))))) (jm (qJ xb (qZ jI rfl T.b_len rfl (qA (pv 0) qE)) qB (qM _))))) (qH (qO xW)) qU)
      (qH (qO (xq (jW qBd (qP qN (pv 0) qB (fun _ _ => rfl)) (qi (qA qY (qA qY qE))) rfl) (xf (qI T.d_is_length (zW T) hr rfl (qA (qP qN (pv 0) qB (fun _ _ => rfl)) qE))))))), ?_⟩
  try dsimp only [xJ, jD]
  refine ⟨_, rfl, z, _, _, true, rfl, .inl ⟨_, hz, rfl⟩, by kernel_rfl, true, rfl, jE ?_⟩
  refine ⟨_, rfl, _, _, rfl, .inr hz, rfl, _, rfl, jE ?_⟩
  refine ⟨_, rfl, _, _, _, _, rfl, rfl, hz, rfl, sL2, fun t ht => ?_⟩
  have w1 := qD ht (.tup [.str "gap", .str "mix"])
  refine ⟨t, _, rfl, .inr (SqT.of qC), rfl, rfl, true, ?_, j9 ?_⟩
  · have : inV (.str "mix") [.str "gap", .str "mix"] = true := by decide +kernel
    rw [this]
    rfl
  exact ⟨_, rfl, _, _, _, _, rfl, rfl, L3.Same.tup w1 hz, rfl, l, rfl, l1, kk _ w1⟩
def GW : Option Im → Prop
  | some (.clip n p q r s _) => xp n = true ∧ n.length ≤ 1000 ∧ 0 < q ∧ Int.gcd p q = 1 ∧ 0 < s ∧ Int.gcd r s = 1
  | some (.nest n b _) => xp n = true ∧ n.length ≤ 1000 ∧ 0 ≤ b
  | some (.mix l) => 1 ≤ l
  | _ => True
theorem nh2 : ¬ (HT.sIx 2 0 none = 0 ∧ HT.sIx 2 2 (some 1) = 2) := by decide
theorem nh3 : ¬ (HT.sIx 3 0 none = 0 ∧ HT.sIx 3 3 (some 1) = 3) := by decide
theorem nh4 : ¬ (HT.sIx 4 0 none = 0 ∧ HT.sIx 4 4 (some 1) = 4) := by decide
theorem eqC {H : Hp} {m : Option Im} {u : V} {z : Addr} {c : Str} {Q : VK} {σ : L2.St} (hw : WhV K H m u) (hz : SqT K H z [.str c]) (q : Q (.bl (eqD (whD m) (.tup [.leaf (.str c)]))) H) : tC (.ref z) σ H (fun y H2 => qC0 K false u y H2 Q) := by
  refine ⟨_, .tup [.leaf (.str c)], hw.rep, qCi hz rfl, ?_, by have := qDr m; omega, q⟩
  rcases m with _ | m
  · rfl
  · cases m <;> rfl
def qA5 (K : W.Frag) : Sp := fun vs H Q _ => ∃ (u : V) (m : Option Im), vs = [u] ∧ WhV K H m u ∧ GW m ∧ ∀ H', Same H H' → Q (.bl true) H'
theorem qAx (T : Tx K mg a) : FnOk P w K mg base CX0 4 a.a_is_what a.f_is_what ["what"] (qA5 K) := by
  refine T.d_is_what.F.ok qBb (fun vs H Q E h => ?_) (fun cdv A outer s H vs Q E hr h => ?_)
  · obtain ⟨u, m, rfl, _⟩ := h
    rfl
  obtain ⟨u, m, rfl, hw, hg, kk⟩ := h
  have hu := hr.units
  have hu0 := hr.units0
  refine ⟨_, (qF (qp (jS (jK (qZ zV rfl T.b_isinstance rfl (qA (pv 0) (qA (zg rfl T.b_tuple rfl) qE))))) (qH (qO xW)) qU)
      (qF (qp (PW.pt (j4 (qJ (v9 hu) (pv 0) (xI (v := .ref a.n_GAP) rfl T.g_GAP rfl) (qM _)) (jm (qJ (v9 hu) (pv 0) (xI (v := .ref a.n_END) rfl T.g_END rfl) (qM _))))) (qH (qO xW)) qU)
      (qF (qp (qJ (qDw hu0) (zC qDy (pv 0) wr (xz qB)) (qi (qA qY qE)) (qM _)) (qH (qO (qI T.d_has_gap_or_mix_form (xa T) hr rfl (qA (pv 0) qE)))) qU)
      (qH (qO (qFt (qI T.d_has_clip_form (zo T) hr rfl (qA (qQ wt (pv 0) (qi (qA qB qE))) qE)) (xf (qI T.d_has_nest_form (ze T) hr rfl (qA (qQ wt (pv 0) (qi (qA qB qE))) qE))))))))), ?_⟩
  try dsimp only [xJ, jD]
  obtain ⟨z, xs, rfl, hz⟩ := hw.tup
  refine ⟨_, rfl, z, _, _, true, rfl, .inl ⟨_, hz, rfl⟩, by kernel_rfl, true, rfl, jE ?_⟩
  match m, hw, hg with
  | none, hw, hg =>
    refine ⟨_, rfl, eqC hw (T.sq_GAP H) ⟨false, ?_, jE ⟨_, rfl, eqC hw (T.sq_END H) ⟨true, ?_, j9 (kk _ (Same.refl _))⟩⟩⟩⟩
    · exact congrArg V.bl (show eqD (whD none) (.tup [.leaf (.str "gap")]) = false by decide +kernel)
    · exact congrArg V.bl (show eqD (whD none) (.tup [.leaf (.str "end")]) = true by decide +kernel)
  | some (.gap l), hw, hg =>
    refine ⟨_, rfl, eqC hw (T.sq_GAP H) ⟨true, ?_, j9 (j9 (kk _ (Same.refl _)))⟩⟩
    simp [whD, eqD, xF, eqV]
  | some (.mix l), hw, hg =>
    refine ⟨_, rfl, eqC hw (T.sq_GAP H) ⟨false, ?_, jE ⟨_, rfl, eqC hw (T.sq_END H) ⟨false, ?_, jE ?_⟩⟩⟩⟩
    · simp [whD, eqD, xF]
    · simp [whD, eqD, xF]
    obtain ⟨z', e, hz'⟩ := id hw
    cases e
    have hz' : SqT K H z _ := SqT.of hz'
    refine ⟨_, rfl, _, rfl, z, _, rfl, hz', nh2, fun t ht => ?_⟩
    have w1 := qD ht (.tup (v8 [V.str "mix", .int l] none (some 1)))
    refine ⟨sL1, fun t2 ht2 => ?_⟩
    have w2 := qD ht2 (.tup [.str "mix"])
    refine ⟨t, t2, [.str "mix"], _, rfl, rfl, SqT.of (w2 _ _ qC), SqT.of qC, rfl, rfl, true, ?_, j9 ?_⟩
    · exact congrArg V.bl (show zj [V.str "mix"] [V.str "mix"] = true by decide +kernel)
    exact ⟨_, rfl, z, l, rfl, L3.Same.tup (w1.trans w2) hz', hg, fun H' s' => kk _ ((w1.trans w2).trans s')⟩
  | some (.nest n b l), hw, hg =>
    refine ⟨_, rfl, eqC hw (T.sq_GAP H) ⟨false, ?_, jE ⟨_, rfl, eqC hw (T.sq_END H) ⟨false, ?_, jE ?_⟩⟩⟩⟩
    · simp [whD, eqD, xF]
    · simp [whD, eqD, xF]
    obtain ⟨z', e, hz'⟩ := id hw
    cases e
    have hz' : SqT K H z _ := SqT.of hz'
    refine ⟨_, rfl, _, rfl, z, _, rfl, hz', nh3, fun t ht => ?_⟩
    have w1 := qD ht (.tup (v8 [V.str "nest", .str n, .int b] none (some 1)))
    refine ⟨sL1, fun t2 ht2 => ?_⟩
    have w2 := qD ht2 (.tup [.str "mix"])
    refine ⟨t, t2, [.str "nest"], _, rfl, rfl, SqT.of (w2 _ _ qC), SqT.of qC, rfl, rfl, false, ?_, jE ?_⟩
    · exact congrArg V.bl (show zj [V.str "nest"] [V.str "mix"] = false by decide +kernel)
    have hz2 := L3.Same.tup (w1.trans w2) hz'
    refine ⟨_, rfl, sL1, fun t3 ht3 => ?_⟩
    have w3 := qD ht3 (.tup [.int 1])
    refine ⟨z, t3, _, _, rfl, rfl, L3.Same.tup w3 hz2, SqT.of qC, (List.cons_ne_nil _ _), (by show 3 + 1 ≤ sizeLine; decide), fun z => absurd z (by simp), fun _ t4 ht4 => ?_⟩
    have w4 := qD ht4 (.tup ([V.str "nest", .str n, .int b] ++ [.int 1]))
    refine ⟨_, false, rfl, .len qC (by show 4 ≠ 5; decide), fun H5 s5 => ⟨false, rfl, jE ?_⟩⟩
    have w15 := (((w1.trans w2).trans w3).trans w4).trans s5
    refine ⟨_, rfl, sL1, fun t6 ht6 => ?_⟩
    have w6 := qD ht6 (.tup [.int 1])
    refine ⟨z, t6, _, _, rfl, rfl, L3.Same.tup (w15.trans w6) hz', SqT.of qC, (List.cons_ne_nil _ _), (by show 3 + 1 ≤ sizeLine; decide), fun z => absurd z (by simp), fun _ t7 ht7 => ?_⟩
    have w7 := qD ht7 (.tup ([V.str "nest", .str n, .int b] ++ [.int 1]))
    obtain ⟨g1, g2, g3⟩ := hg
    exact ⟨t7, n, b, 1, rfl, qC, g1, g2, g3, by decide, fun H8 s8 => kk _ (((w15.trans w6).trans w7).trans s8)⟩
  | some (.clip n p q r s' l), hw, hg =>
    refine ⟨_, rfl, eqC hw (T.sq_GAP H) ⟨false, ?_, jE ⟨_, rfl, eqC hw (T.sq_END H) ⟨false, ?_, jE ?_⟩⟩⟩⟩
    · simp [whD, eqD, xF]
    · simp [whD, eqD, xF]
    obtain ⟨z', x, y, e, hz', hx, hy⟩ := id hw
    cases e
    have hz' : SqT K H z _ := SqT.of hz'
    refine ⟨_, rfl, _, rfl, z, _, rfl, hz', nh4, fun t ht => ?_⟩
    have w1 := qD ht (.tup (v8 [V.str "clip", .str n, .ref x, .ref y] none (some 1)))
    refine ⟨sL1, fun t2 ht2 => ?_⟩
    have w2 := qD ht2 (.tup [.str "mix"])
    refine ⟨t, t2, [.str "clip"], _, rfl, rfl, SqT.of (w2 _ _ qC), SqT.of qC, rfl, rfl, false, ?_, jE ?_⟩
    · exact congrArg V.bl (show zj [V.str "clip"] [V.str "mix"] = false by decide +kernel)
    have hz2 := L3.Same.tup (w1.trans w2) hz'
    refine ⟨_, rfl, sL1, fun t3 ht3 => ?_⟩
    have w3 := qD ht3 (.tup [.int 1])
    refine ⟨z, t3, _, _, rfl, rfl, L3.Same.tup w3 hz2, SqT.of qC, (List.cons_ne_nil _ _), (by show 4 + 1 ≤ sizeLine; decide), fun z => absurd z (by simp), fun _ t4 ht4 => ?_⟩
    have w4 := qD ht4 (.tup ([V.str "clip", .str n, .ref x, .ref y] ++ [.int 1]))
    have w14 := ((w1.trans w2).trans w3).trans w4
    obtain ⟨g1, g2, g3, g4, g5, g6⟩ := hg
    have d1 : (decide (1 ≤ q) && decide (Int.gcd p q = 1)) = true := by rw [g4]; simp; omega
    have d2 : (decide (1 ≤ s') && decide (Int.gcd r s' = 1)) = true := by rw [g6]; simp; omega
    have f0 := NmB.str (K := K) (H := upd (upd (upd (upd H t (.tup (v8 [V.str "clip", .str n, .ref x, .ref y] none (some 1)))) t2 (.tup [.str "mix"])) t3 (.tup [.int 1])) t4 (.tup ([V.str "clip", .str n, .ref x, .ref y] ++ [.int 1]))) n g2
    have f1 := FrB.nums (K := K) (w14 _ _ hx)
    have f2 := FrB.nums (K := K) (w14 _ _ hy)
    rw [g1] at f0
    rw [d1] at f1
    rw [d2] at f2
    exact ⟨_, true, rfl, .ln (b := true) qC f0 f1 f2 (.int 1), fun H5 s5 => ⟨true, rfl, j9 (kk _ (w14.trans s5))⟩⟩
structure Rw where
  w : Int
  p : Int
  q : Int
  b : Int
  m : Option Im
def RowG (K : W.Frag) (H : Hp) (r : Rw) (v : V) : Prop := ∃ z x u, v = .ref z ∧ H z = some (.tup [.int r.w, .ref x, u]) ∧ H x = some (.tup [.int r.p, .int r.q]) ∧ WhV K H r.m u
theorem RowG.ts {H H' : Hp} (e : TS H H') {r : Rw} {v : V} (h : RowG K H r v) : RowG K H' r v := let ⟨z, x, u, h1, h2, h3, h4⟩ := h; ⟨z, x, u, h1, e _ _ h2, e _ _ h3, h4.ts e⟩
def RowsG (K : W.Frag) (H : Hp) : List Rw → List V → Prop
  | [], [] => True
  | r :: rs, v :: vs => RowG K H r v ∧ RowsG K H rs vs
  | _, _ => False
theorem RowsG.len {H : Hp} : ∀ {rs : List Rw} {vs : List V}, RowsG K H rs vs → vs.length = rs.length
  | [], [], _ => rfl
  | _ :: _, _ :: _, h => by rw [List.length_cons, List.length_cons, RowsG.len h.2]
  | [], _ :: _, h => h.elim
  | _ :: _, [], h => h.elim
theorem RowsG.ts {H H' : Hp} (e : TS H H') : ∀ {rs : List Rw} {vs : List V}, RowsG K H rs vs → RowsG K H' rs vs
  | [], [], _ => trivial
  | _ :: _, _ :: _, h => ⟨RowG.ts e h.1, RowsG.ts e h.2⟩
  | [], _ :: _, h => h.elim
  | _ :: _, [], h => h.elim
theorem RowsG.get {H : Hp} : ∀ {rs : List Rw} {vs : List V} {i : Nat} {v : V}, RowsG K H rs vs → vs[i]? = some v → ∃ r, rs[i]? = some r ∧ RowG K H r v
  | [], [], _, _, _, h => by simp at h
  | m :: _, x :: _, 0, v, h, e => by
    have e' : x = v := by simpa using e
    subst e'
    exact ⟨m, rfl, h.1⟩
  | _ :: ms, _ :: vs, i + 1, v, h, e => by
    obtain ⟨m, h1, h2⟩ := RowsG.get (i := i) h.2 (by simpa using e)
    exact ⟨m, by simpa using h1, h2⟩
  | [], _ :: _, _, _, h, _ => h.elim
  | _ :: _, [], _, _, h, _ => h.elim
def wdO : Option Im → Str
  | none => "end"
  | some m => m.wd
theorem WhV.w0 {H : Hp} : ∀ {m : Option Im} {v : V}, WhV K H m v → ∃ z xs, v = .ref z ∧ SqT K H z xs ∧ atI xs 0 = some (.str (wdO m))
  | none, _, ⟨z, h, hz⟩ => ⟨z, _, h, qG0 hz, rfl⟩
  | some (.clip ..), _, ⟨z, _, _, h, hz, _⟩ => ⟨z, _, h, SqT.of hz, rfl⟩
  | some (.nest ..), _, ⟨z, h, hz⟩ => ⟨z, _, h, SqT.of hz, rfl⟩
  | some (.gap _), _, ⟨z, h, hz⟩ => ⟨z, _, h, SqT.of hz, rfl⟩
  | some (.mix _), _, ⟨z, h, hz⟩ => ⟨z, _, h, SqT.of hz, rfl⟩
structure OkR (r0 r1 o0 o1 : Int) (r : Rw) : Prop where
  p0 : 0 ≤ r.p
  pq : r.p < r.q
  g : Int.gcd r.p r.q = 1
  bw : r.w.natAbs < 2 ^ 500
  bq : r.q.natAbs < 2 ^ 500
  gw : GW r.m
  pl : (r.w * r.q + r.p) * r0 * o1 = r.b * (r.q * r1 * o0)
def kO (K : W.Frag) : Sp := fun vs H Q _ => ∃ (v : V) (r : Rw), vs = [v] ∧ RowG K H r v ∧ 0 ≤ r.p ∧ r.p < r.q ∧ Int.gcd r.p r.q = 1 ∧ r.q.natAbs < 2 ^ 500 ∧ GW r.m ∧ ∀ H', Same H H' → Q (.bl true) H'
theorem kA (T : Tx K mg a) : FnOk P w K mg base CX0 5 a.a_has_row_form a.f_has_row_form ["row"] (kO K) := by
  refine T.d_has_row_form.F.ok kH (fun vs H Q E h => ?_) (fun cdv A outer s H vs Q E hr h => ?_)
  · obtain ⟨v, r, rfl, _⟩ := h
    rfl
  obtain ⟨v, r, rfl, ⟨z, x, u, rfl, hz, hx, hw⟩, p0, pq, g, bq, gw, kk⟩ := h
  refine ⟨_, (qF (qp (PW.pt (j4 (jS (jK (qZ jB rfl T.b_isinstance rfl (qA (pv 0) (qA (zg rfl T.b_tuple rfl) qE))))) (jm (qJ xb (qZ jI rfl T.b_len rfl (qA (pv 0) qE)) qB (qM _))))) (qH (qO xW)) qU)
      (qF (qp (PW.pt (j4 (jS (jK (qI T.d_is_whole (xC T) hr rfl (qA (qP qN (pv 0) qB (fun _ _ => rfl)) qE)))) (j4 (jS (jK (qI T.d_is_fraction (jx T) hr rfl (qA (qP qN (pv 0) qB (fun _ _ => rfl)) qE)))) (jm (jS (jK (qI T.d_is_what (qAx T) hr rfl (qA (qP qN (pv 0) qB (fun _ _ => rfl)) qE)))))))) (qH (qO xW)) qU)
      (qH (qO (xq (qCj (qI T.d_is_before (xc T) hr rfl (qA (qP qN (pv 0) qB (fun _ _ => rfl)) (qA (xI (v := .ref a.n_NOUGHT) rfl T.g_NOUGHT rfl) qE)))) (xf (qI T.d_is_before (xc T) hr rfl (qA (qP qN (pv 0) qB (fun _ _ => rfl)) (qA (xI (v := .ref a.n_ONE) rfl T.g_ONE rfl) qE))))))))), ?_⟩
  try dsimp only [xJ, jD]
  have d1 : (decide (1 ≤ r.q) && decide (Int.gcd r.p r.q = 1)) = true := by rw [g]; simp; omega
  have f1 := FrB.nums (K := K) hx
  rw [d1] at f1
  have sq : Sm r.q := xo bq
  have sp : Sm r.p := Nat.lt_of_le_of_lt (show r.p.natAbs ≤ r.q.natAbs by omega) sq
  have s0 : Sm 0 := zB (by decide) (by decide)
  have s1' : Sm 1 := zB (by decide) (by decide)
  refine ⟨_, rfl, _, _, _, true, rfl, .tup hz, ⟨_, .inl ⟨rfl, by kernel_rfl⟩⟩, true, rfl, jE ?_⟩
  refine ⟨_, rfl, _, _, rfl, .inr (SqT.of hz), rfl, _, rfl, jE ?_⟩
  refine ⟨_, rfl, _, _, _, _, rfl, rfl, SqT.of hz, rfl, r.w, rfl, true, rfl, jE ?_⟩
  refine ⟨_, rfl, _, _, _, _, rfl, rfl, SqT.of hz, rfl, _, true, rfl, f1, true, rfl, jE ?_⟩
  refine ⟨_, rfl, _, _, _, _, rfl, rfl, SqT.of hz, rfl, u, r.m, rfl, hw, gw, fun H1 s1 => ⟨true, rfl, jE ?_⟩⟩
  have hz1 : SqT K H1 z [.int r.w, .ref x, u] := SqT.of (s1 _ _ hz)
  have hx1 : Pr K H1 (.ref x) r.p r.q := ⟨x, rfl, SqT.of (s1 _ _ hx)⟩
  refine ⟨_, rfl, _, _, _, _, rfl, rfl, hz1, rfl, _, _, r.p, r.q, 0, 1, rfl, hx1, ⟨_, rfl, T.sq_NOUGHT H1⟩, sp, sq, s0, s1', false, ?_, true, rfl, j9 ?_⟩
  · rw [decide_eq_false (by omega)]
  refine ⟨_, rfl, _, _, _, _, rfl, rfl, hz1, rfl, _, _, r.p, r.q, 1, 1, rfl, hx1, ⟨_, rfl, T.sq_ONE H1⟩, sp, sq, s1', s1', ?_⟩
  rw [decide_eq_true (by omega)]
  exact kk H1 s1
def vS : Sp := fun vs H Q _ => ∃ k c : Str, vs = [.str k, .str c] ∧ c ≠ "end" ∧ wS c k = true ∧ ∀ H', Same H H' → Q (.bl true) H'
theorem vG (T : Tx K mg a) : FnOk P w K mg base CX0 1 a.a_may_follow a.f_may_follow ["kind", "ahead"] vS := by
  refine T.d_may_follow.F.ok vV (fun vs H Q E h => ?_) (fun cdv A outer s H vs Q E hr h => ?_)
  · obtain ⟨k, c, rfl, _⟩ := h
    rfl
  obtain ⟨k, c, rfl, hc, hm, kk⟩ := h
  refine ⟨_, (qF (qp (qJ j0 (pv 1) qY (qM _)) (qH (qO xW)) qU)
      (qF (qp (qJ j0 (pv 1) qY (qM _)) (qH (qO (jW j0 (pv 0) qY (qM _)))) qU)
      (qF (qp (qJ j0 (pv 0) qY (qM _)) (qH (qO (jW j0 (pv 1) qY (qM _)))) qU)
      (qH (qO (qFt (jW xb (pv 1) qY (qM _)) (xf (jW v0 (pv 0) (qi (qA qY (qA qY qE))) rfl)))))))), ?_⟩
  try dsimp only [xJ, jD]
  unfold wS at hm
  refine ⟨_, rfl, rfl, _, rfl, zH (fun c1 => absurd (by simpa using c1) hc) (fun _ => ?_)⟩
  refine ⟨_, rfl, rfl, _, rfl, zH (fun c1 => ?_) (fun c1 => ?_)⟩
  · rw [if_pos (by simpa using c1)] at hm
    refine ⟨_, rfl, rfl, ?_⟩
    rw [qHc, hm]
    exact kk _ (Same.refl _)
  rw [if_neg (by simpa using c1)] at hm
  refine ⟨_, rfl, rfl, _, rfl, zH (fun c1 => ?_) (fun c1 => ?_)⟩
  · rw [if_pos (by simpa using c1)] at hm
    refine ⟨_, rfl, rfl, ?_⟩
    rw [qHc, hm]
    exact kk _ (Same.refl _)
  rw [if_neg (by simpa using c1)] at hm
  refine ⟨_, rfl, rfl, _, rfl, zH (fun c2 => ?_) (fun c2 => ?_)⟩
  · exact kk _ (Same.refl _)
  · have hcg : c = "gap" := by simpa using c2
    refine ⟨_, rfl, sL2, fun t ht => ?_⟩
    refine ⟨t, _, rfl, .inr (SqT.of qC), rfl, rfl, ?_⟩
    have hk : k ≠ "gap" ∧ k ≠ "end" := by simpa [hcg] using hm
    have e : inV (.str k) [.str "gap", .str "end"] = false := by
      simp [inV, eqV, Ne.symm hk.1, Ne.symm hk.2]
    rw [e]
    exact kk _ (qD ht _)
def vP (K : W.Frag) : Sp := fun vs H Q _ => ∃ (b : Int) (z : Addr) (bs : List Int) (c : Str), vs = [.int b, .ref z, .str c] ∧ SqL K H z (bs.map V.int) ∧ (bs = [] → b = 0) ∧ (∀ x, bs.getLast? = some x → if c = "mix" then b = x else x < b) ∧ Q (.bl true) H
theorem vB (T : Tx K mg a) : FnOk P w K mg base CX0 1 a.a_lies_right a.f_lies_right ["border", "borders", "ahead"] (vP K) := by
  refine T.d_lies_right.F.ok vK (fun vs H Q E h => ?_) (fun cdv A outer s H vs Q E hr h => ?_)
  · obtain ⟨b, z, bs, c, rfl, _⟩ := h
    rfl
  obtain ⟨b, z, bs, c, rfl, hz, h0, hL, kk⟩ := h
  refine ⟨_, (qF (qp (qJ j0 (qZ jI rfl T.b_len rfl (qA (pv 1) qE)) qB (qM _)) (qH (qO (jW j0 (pv 0) qB (qM _)))) qU)
      (qF (qp (qJ j0 (pv 2) qY (qM _)) (qH (qO (jW j0 (pv 0) (qP qh (pv 1) (xX jp qB) (fun _ _ => rfl)) (qM _)))) qU)
      (qH (qO (jW qE0 (pv 0) (qP qh (pv 1) (xX jp qB) (fun _ _ => rfl)) (qM _)))))), ?_⟩
  try dsimp only [xJ, jD]
  refine ⟨_, rfl, z, _, rfl, .inl hz, rfl, _, rfl, ?_⟩
  rw [List.length_map]
  cases hbs : bs with
  | nil =>
    refine j9 ⟨_, rfl, rfl, ?_⟩
    rw [h0 hbs]
    exact kk
  | cons x xs =>
    have hne : bs ≠ [] := by rw [hbs]; simp
    refine qGo (by simp; omega) ?_
    obtain ⟨y, hy⟩ : ∃ y, bs.getLast? = some y := ⟨_, List.getLast?_eq_some_getLast hne⟩
    have hl := hL y hy
    have hat : atI (bs.map V.int) (-1) = some (.int y) := xE (by
      rw [List.length_map, List.getElem?_map, ← List.getLast?_eq_getElem?, hy]; rfl)
    refine ⟨_, rfl, rfl, _, rfl, zH (fun c1 => ?_) (fun c1 => ?_)⟩
    · rw [if_pos (by simpa using c1)] at hl
      refine ⟨_, rfl, _, rfl, 1, rfl, z, _, _, _, rfl, rfl, hz, hat, rfl, ?_⟩
      rw [hl]
      rw [decide_eq_true rfl]
      exact kk
    · rw [if_neg (by simpa using c1)] at hl
      refine ⟨_, rfl, _, rfl, 1, rfl, z, _, _, _, rfl, rfl, hz, hat, _, _, rfl, rfl, ?_⟩
      dsimp only
      rw [decide_eq_true hl]
      exact kk
theorem qC4 {w p q r0 r1 o0 o1 b : Int} (hq : 0 < q) (h1 : 0 < r1) (h2 : 0 < o0) (pl : (w * q + p) * r0 * o1 = b * (q * r1 * o0)) :
    jO (jO (jO w 1 * q + p * qm w 1) (qm w 1 * q) * jO (r0 * o1) (r1 * o0)) (qm (jO w 1 * q + p * qm w 1) (qm w 1 * q) * qm (r0 * o1) (r1 * o0)) = b ∧
    qm (jO (jO w 1 * q + p * qm w 1) (qm w 1 * q) * jO (r0 * o1) (r1 * o0)) (qm (jO w 1 * q + p * qm w 1) (qm w 1 * q) * qm (r0 * o1) (r1 * o0)) = 1 := by
  have e1 : jO w 1 * 1 = w * qm w 1 := j1 _ _
  have q1 : 0 < qm w 1 := jX (by decide)
  generalize jO w 1 = U at *
  generalize qm w 1 = W at *
  have hWq : W * q ≠ 0 := Int.mul_ne_zero (by omega) (by omega)
  have e2 : jO (U * q + p * W) (W * q) * (W * q) = (U * q + p * W) * qm (U * q + p * W) (W * q) := j1 _ _
  have q2 : 0 < qm (U * q + p * W) (W * q) := jX hWq
  generalize jO (U * q + p * W) (W * q) = S at *
  generalize qm (U * q + p * W) (W * q) = Tq at *
  have hro : r1 * o0 ≠ 0 := Int.mul_ne_zero (by omega) (by omega)
  have e3 : jO (r0 * o1) (r1 * o0) * (r1 * o0) = r0 * o1 * qm (r0 * o1) (r1 * o0) := j1 _ _
  have q3 : 0 < qm (r0 * o1) (r1 * o0) := jX hro
  generalize jO (r0 * o1) (r1 * o0) = BP at *
  generalize qm (r0 * o1) (r1 * o0) = BQ at *
  refine qE5 (Int.mul_ne_zero (by omega) (by omega)) (by decide) (by simp) ?_
  have hU : U = w * W := by rw [← e1]; omega
  subst hU
  have hS : S * q = (w * q + p) * Tq := by
    have hW : W ≠ 0 := by omega
    refine Int.eq_of_mul_eq_mul_right hW ?_
    have a1 : S * q * W = S * (W * q) := by grind
    have a2 : (w * q + p) * Tq * W = (w * W * q + p * W) * Tq := by grind
    rw [a1, a2, e2]
  have hz : q * (r1 * o0) ≠ 0 := Int.mul_ne_zero (by omega) hro
  refine Int.eq_of_mul_eq_mul_right hz ?_
  have b1 : b * (Tq * BQ) * (q * (r1 * o0)) = b * (q * r1 * o0) * (Tq * BQ) := by grind
  have b2 : S * BP * 1 * (q * (r1 * o0)) = S * q * (BP * (r1 * o0)) := by grind
  rw [b1, b2, ← pl, hS, e3]
  grind
theorem jy {α : Type} {xs : List α} {i : Nat} {x : α} (h : xs[i]? = some x) : xs.drop i = x :: xs.drop (i + 1) := by
  obtain ⟨hi, e⟩ := List.getElem?_eq_some_iff.mp h
  rw [List.drop_eq_getElem_cons hi, e]
def wX (c : Str) : Option Rw → Str
  | none => c
  | some r => wdO r.m
def OkL : Option Int → Str → List Rw → Prop
  | _, c, [] => c = "end"
  | o, c, r :: rs => c ≠ "end" ∧ wS c (wdO r.m) = true ∧ (match o with | none => r.b = 0 | some x => if c = "mix" then r.b = x else x < r.b) ∧ OkL (some r.b) (wdO r.m) rs
theorem OkL.at {rs : List Rw} : ∀ {o : Option Int} {c : Str} {i : Nat} {r : Rw}, OkL o c rs → rs[i]? = some r → OkL ((rs.take i).getLast?.map Rw.b |>.or o) (wX c ((rs.take i).getLast?)) (rs.drop i) := by
  induction rs with
  | nil => intro o c i r _ h; simp at h
  | cons x xs ih =>
    intro o c i r h e
    cases i with
    | zero => simpa [wX] using h
    | succ i =>
      have := ih h.2.2.2 (by simpa using e)
      rw [List.drop_succ_cons, List.take_succ_cons]
      cases ht : xs.take i with
      | nil => rw [ht] at this; simpa [wX] using this
      | cons y ys =>
        rw [ht] at this
        rw [List.getLast?_cons_cons]
        have hs : ((y :: ys).getLast?).isSome = true := by simp
        cases hl : (y :: ys).getLast? with
        | none => rw [hl] at hs; cases hs
        | some v => rw [hl] at this; exact this
def kF (K : W.Frag) : Sp := fun vs H Q _ => ∃ (l : Addr) (us : List V) (rs : List Rw) (x y : V) (r0 r1 o0 o1 : Int), vs = [.ref l, x, y] ∧ H l = some (.lst us) ∧ RowsG K H rs us ∧ rs.length ≤ 300 ∧ Rate H x r0 r1 ∧ Rate H y o0 o1 ∧ (∀ r ∈ rs, OkR r0 r1 o0 o1 r) ∧ OkL none "" rs ∧
  ∀ (z : Addr) (H' : Hp), Same H H' → H z = none → H' z = some (.lst ((rs.map Rw.b).map V.int)) → Q (.ref z) H'
theorem kB (T : Tx K mg a) : FnOk P w K mg base CX0 6 a.a_borders_read a.f_borders_read ["rows", "rate", "other"] (kF K) := by
  refine T.d_borders_read.F.ok sc_borders_read (fun vs H Q E h => ?_) (fun cdv A outer s H vs Q E hr h => ?_)
  · obtain ⟨l, us, rs, x, y, r0, r1, o0, o1, rfl, _⟩ := h
    rfl
  obtain ⟨l, us, rs, x, y, r0, r1, o0, o1, rfl, hl, hrs, hlen, rx, ry, hok, hL, kk⟩ := h
  have hu0 := hr.units0
  refine ⟨_, (qF (qX (i := 3) sc_borders_read.nd rfl (Or.inl rfl) (qI T.d_quotient (kW T) hr rfl (qA (pv 1) (qA (pv 2) qE))))
      (qF (qX (i := 4) sc_borders_read.nd rfl (Or.inl rfl) (jT qE))
      (qF (qX (i := 5) sc_borders_read.nd rfl (Or.inl rfl) qY)
      (qF (zG PassesOwn.never rfl (qBm rfl T.b_enumerate (qA (pv 0) qE)) (qAg rfl (jA (qo (i := 6) sc_borders_read.nd rfl (Or.inl rfl)) (jA (qo (i := 7) sc_borders_read.nd rfl (Or.inl rfl)) kM))) (qF (qp (PW.pt (j4 (jS (jK (qI T.d_has_row_form (kA T) hr rfl (qA (pv 7) qE)))) (jm (jS (jK (qI T.d_may_follow (vG T) hr rfl (qA (qP qN (qP qN (pv 7) qB (fun _ _ => rfl)) qB (fun _ _ => rfl)) (qA (pv 5) qE)))))))) xM qU)
      (qF (qX (i := 8) sc_borders_read.nd rfl (Or.inl rfl) (qI T.d_times_of (kE T) hr rfl (qA (qI T.d_sum_of (qB2 T) hr rfl (qA (qI T.d_fraction (xB T) hr rfl (qA (qP qN (pv 7) qB (fun _ _ => rfl)) (qA qB qE))) (qA (qP qN (pv 7) qB (fun _ _ => rfl)) qE))) (qA (pv 3) qE))))
      (qF (qp (PW.pt (j4 (qJ (qFy hu0) (qI T.d_rest_of (kg T) hr rfl (qA (pv 8) qE)) (xI (v := .ref a.n_NOUGHT) rfl T.g_NOUGHT rfl) (qM _)) (jm (jS (jK (qI T.d_lies_right (vB T) hr rfl (qA (qI T.d_floor_of (xv T) hr rfl (qA (pv 8) qE)) (qA (pv 4) (qA (pv 5) qE))))))))) xM qU)
      (qF (je (zu F.plainAttrs_list F.slot_list_append F.type_list_append jL (pv 4) (qA (qI T.d_floor_of (xv T) hr rfl (qA (pv 8) qE)) qE)))
      (qH (qX (i := 5) sc_borders_read.nd rfl (Or.inl rfl) (qP qN (qP qN (pv 7) qB (fun _ _ => rfl)) qB (fun _ _ => rfl)))))))))
      (qF (qp (qJ xb (pv 5) qY (qM _)) xM qU)
      (qH (qO (pv 4)))))))), ?_⟩
  try dsimp only [xJ, jD]
  have px := rx.p0
  have py := ry.p0
  have qx := rx.q0
  have qy := ry.q0
  have c1 := rx.bp
  have c2 := rx.bq
  have c3 := ry.bp
  have c4 := ry.bq
  refine ⟨_, rfl, _, rfl, x, y, r0, r1, o0, o1, rfl, rx.pr, ry.pr, by omega, by omega, zB (by omega) (by omega), zB (by omega) (by omega), zB (by omega) (by omega), zB (by omega) (by omega), fun zb hb => ?_⟩
  have hne : r1 * o0 ≠ 0 := Int.mul_ne_zero (by omega) (by omega)
  have bP : (jO (r0 * o1) (r1 * o0)).natAbs < 2 ^ 200 := Nat.lt_of_le_of_lt (jo hne) (xS px c1 qy c4)
  have bQ : (qm (r0 * o1) (r1 * o0)).natAbs < 2 ^ 200 := Nat.lt_of_le_of_lt (jf hne) (xS qx c2 py c3)
  have q0 : 0 < qm (r0 * o1) (r1 * o0) := jX hne
  have plE : ∀ r ∈ rs, _ := fun r hr => qC4 (w := r.w) (p := r.p) (q := r.q) (b := r.b) (r0 := r0) (r1 := r1) (o0 := o0) (o1 := o1) (by have := (hok r hr).p0; have := (hok r hr).pq; omega) qx py (hok r hr).pl
  generalize jO (r0 * o1) (r1 * o0) = BP at plE bP ⊢
  generalize qm (r0 * o1) (r1 * o0) = BQ at plE bQ q0 ⊢
  have w1 := qD hb (.tup [.int BP, .int BQ])
  refine ⟨sL0, fun z hz => ?_⟩
  have w2 := qD hz (.lst [])
  have w12 := w1.trans w2
  have pB : (upd (upd H zb (.tup [.int BP, .int BQ])) z (.lst [])) zb = some (.tup [.int BP, .int BQ]) := w2 _ _ qC
  have ez : (upd (upd H zb (.tup [.int BP, .int BQ])) z (.lst [])) z = some (.lst []) := qC
  have hz0 : H z = none := w1.free hz
  generalize upd (upd H zb (.tup [.int BP, .int BQ])) z (.lst []) = H2 at w12 pB ez ⊢
  have pB' : ∀ {H' : Hp}, TS H2 H' → Pr K H' (.ref zb) BP BQ := fun ts => ⟨zb, rfl, SqT.of (ts _ _ pB)⟩
  refine ⟨_, rfl, l, rfl, ⟨_, SqL.of (w12 _ _ hl)⟩, qAn (K := K) (a := l) (xs := us) (fun i σ H' => ∃ (o1' o2' o3' : Option V), σ = [some (.ref l), some x, some y, some (.ref zb), some (.ref z), some (.str (wX "" ((rs.take i).getLast?))), o1', o2', o3'] ∧ H' z = some (.lst (((rs.take i).map Rw.b).map V.int)) ∧ TS H2 H' ∧ Same H H')
    ⟨none, none, none, rfl, ez, TS.refl _, w12⟩ ?_ ?_ ?_⟩
  · rintro i σ H' hi ⟨_, _, _, _, _, _, e⟩
    exact SqL.of (e _ _ hl)
  · rintro i v σ H' pe hv ⟨o1', o2', o3', rfl, hzl, ts, e⟩ hpe
    have w3 := qD hpe (.tup [.int i, v])
    obtain ⟨r, hr', hRow⟩ := hrs.get hv
    have hmem : r ∈ rs := List.mem_of_getElem? hr'
    have ok := hok r hmem
    obtain ⟨pl1, pl2⟩ := plE r hmem
    have hLi := hL.at hr'
    have hdr := jy hr'
    rw [hdr] at hLi
    obtain ⟨nE, hmay, hb', _⟩ := hLi
    refine ⟨pe, _, rfl, SqT.of qC, rfl, _, _, rfl, _, _, rfl, rfl, ?_⟩
    have e3 := e.trans w3
    have ts3 := ts.trans (qK w3)
    have hzl := w3 _ _ hzl
    have hRow := hRow.ts (qK e3)
    generalize upd H' pe (.tup [.int i, v]) = H3 at e3 ts3 hzl hRow ⊢
    have het : rs.take (i + 1) = rs.take i ++ [r] := by rw [List.take_add_one, hr']; rfl
    generalize hca : wX "" ((rs.take i).getLast?) = ca at nE hmay hb' ⊢
    refine ⟨_, rfl, v, r, rfl, hRow, ok.p0, ok.pq, ok.g, ok.bq, ok.gw, fun H4 s4 => ⟨true, rfl, jE ?_⟩⟩
    have hRow4 := hRow.ts (qK s4)
    obtain ⟨zr, xr, ur, rfl, hzr, hxr, hwr⟩ := id hRow4
    obtain ⟨zw, xw, rfl, sqw, at0w⟩ := hwr.w0
    refine ⟨_, rfl, _, _, _, _, rfl, rfl, SqT.of hzr, rfl, zw, _, _, _, rfl, rfl, sqw, at0w, _, rfl, wdO r.m, ca, rfl, nE, hmay, fun H5 s5 => ⟨true, rfl, jE ?_⟩⟩
    have s45 := s4.trans s5
    have hzr5 := s5 _ _ hzr
    have hxr5 := s5 _ _ hxr
    have sw : Sm r.w := xo ok.bw
    have sq : Sm r.q := xo ok.bq
    have p0 := ok.p0
    have pq := ok.pq
    have sp : Sm r.p := Nat.lt_of_le_of_lt (show r.p.natAbs ≤ r.q.natAbs by omega) sq
    have l1 : (jO r.w 1).natAbs < 2 ^ 500 := Nat.lt_of_le_of_lt (jo (by decide)) ok.bw
    have l2 : (qm r.w 1).natAbs < 2 ^ 1 := Nat.lt_of_le_of_lt (jf (by decide)) (by decide)
    have l3 := jX (t := r.w) (b := 1) (by decide)
    have sL1 : Sm (jO r.w 1) := xo l1
    have sL2 : Sm (qm r.w 1) := xo l2
    refine ⟨_, rfl, _, _, _, _, rfl, rfl, SqT.of hzr5, rfl, r.w, 1, rfl, by decide, wb (n := 1) (by decide), fun z1 h1 => ?_⟩
    have v1 := qD h1 (.tup [.int (jO r.w 1), .int (qm r.w 1)])
    have bp2 : r.p.natAbs < 2 ^ 500 := Nat.lt_of_le_of_lt (show r.p.natAbs ≤ r.q.natAbs by omega) ok.bq
    have hWq : qm r.w 1 * r.q ≠ 0 := Int.mul_ne_zero (by omega) (by omega)
    refine ⟨_, rfl, _, _, _, _, rfl, rfl, SqT.of (v1 _ _ hzr5), rfl, _, _, jO r.w 1, qm r.w 1, r.p, r.q, rfl, ⟨z1, rfl, SqT.of qC⟩, ⟨xr, rfl, SqT.of (v1 _ _ hxr5)⟩, by omega, by omega, sL1, sL2, sp, sq, fun z2 h2 => ?_⟩
    have v2 := qD h2 (.tup [.int (jO (jO r.w 1 * r.q + r.p * qm r.w 1) (qm r.w 1 * r.q)), .int (qm (jO r.w 1 * r.q + r.p * qm r.w 1) (qm r.w 1 * r.q))])
    have sS : Sm (jO (jO r.w 1 * r.q + r.p * qm r.w 1) (qm r.w 1 * r.q)) := by
      refine Nat.lt_of_le_of_lt (jo hWq) ?_
      have h1 := jd l1 ok.bq
      have h2 := jd bp2 l2
      have e : (2 : Nat) ^ (500 + 500) + 2 ^ (500 + 1) ≤ 2 ^ 3000 := by decide
      omega
    have sT : Sm (qm (jO r.w 1 * r.q + r.p * qm r.w 1) (qm r.w 1 * r.q)) := by
      refine Nat.lt_of_le_of_lt (jf hWq) ?_
      exact xo (jd l2 ok.bq)
    have nT := jX (t := jO r.w 1 * r.q + r.p * qm r.w 1) hWq
    have ts5 := ((ts3.trans (qK s45)).trans (qK v1)).trans (qK v2)
    refine ⟨_, rfl, _, _, _, _, BP, BQ, rfl, ⟨z2, rfl, SqT.of qC⟩, pB' ts5, by omega, by omega, sS, sT, .of200 bP, .of200 bQ, fun z3 h3 => ?_⟩
    rw [pl1, pl2]
    have v3 := qD h3 (.tup [.int r.b, .int 1])
    have v13 := (v1.trans v2).trans v3
    have s6 := s45.trans v13
    have e6 := e3.trans s6
    have ts6 := ts5.trans (qK v3)
    have hzl6 := s6 _ _ hzl
    have hRow6 := hRow.ts (qK s6)
    have hpl : Pr K (upd (upd (upd H5 z1 (.tup [.int (jO r.w 1), .int (qm r.w 1)])) z2 (.tup [.int (jO (jO r.w 1 * r.q + r.p * qm r.w 1) (qm r.w 1 * r.q)), .int (qm (jO r.w 1 * r.q + r.p * qm r.w 1) (qm r.w 1 * r.q))])) z3 (.tup [.int r.b, .int 1])) (.ref z3) r.b 1 := ⟨z3, rfl, SqT.of qC⟩
    clear v1 v2 v3 v13 h1 h2 h3 sS sT nT hWq l1 l2 l3 sL1 sL2 s45 hRow4 hzr hxr hwr sqw
    generalize upd (upd (upd H5 z1 _) z2 _) z3 _ = H6 at s6 e6 ts6 hzl6 hRow6 hpl ⊢
    refine ⟨_, rfl, _, r.b, 1, rfl, hpl, by decide, fun z4 h4 => ?_⟩
    have v4 := qD h4 (.tup [.int (r.b.fmod 1), .int 1])
    refine ⟨_, _, _, _, rfl, rfl, SqT.of qC, T.sq_NOUGHT _, rfl, rfl, false, ?_, jE ?_⟩
    · have : zj [V.int (r.b.fmod 1), .int 1] [.int 0, .int 1] = true := by rw [Int.fmod_one]; decide +kernel
      rw [this]; rfl
    have e7 := e6.trans v4
    have ts7 := ts6.trans (qK v4)
    have hzl7 := v4 _ _ hzl6
    have hRow7 := hRow6.ts (qK v4)
    have hpl7 := hpl.same v4
    generalize upd H6 z4 _ = H7 at e7 ts7 hzl7 hRow7 hpl7 ⊢
    have hfl : r.b.fdiv 1 = r.b := Int.fdiv_one _
    refine ⟨_, rfl, _, r.b, 1, rfl, hpl7, by decide, wb (n := 1) (by decide), _, rfl, _, rfl, _, z, (rs.take i).map Rw.b, ca, rfl, SqL.of hzl7, ?_, ?_, true, rfl, jE ?_⟩
    · intro hnil
      rw [hfl]
      have : rs.take i = [] := by simpa using hnil
      rw [this] at hb'
      exact hb'
    · intro q hq
      rw [hfl]
      rw [List.getLast?_map] at hq
      rw [hq] at hb'
      exact hb'
    have hll : ((rs.take i).map Rw.b).length ≤ 300 := by rw [List.length_map, List.length_take]; omega
    refine ⟨_, rfl, .inl ⟨rfl, _, SqL.of hzl7⟩, _, rfl, _, r.b, 1, rfl, hpl7, by decide, wb (n := 1) (by decide), z, _, _, rfl, rfl, hzl7, qd (by rw [List.length_map]; omega), ?_⟩
    have t8 : TS H7 (upd H7 z (.lst (((rs.take i).map Rw.b).map V.int ++ [.int (r.b.fdiv 1)]))) := j2 hzl7
    obtain ⟨zr, xr, ur, e', hzr, hxr, hwr⟩ := hRow7.ts t8
    cases e'
    obtain ⟨zw, xw, rfl, sqw, at0w⟩ := hwr.w0
    refine ⟨_, rfl, _, _, _, _, rfl, rfl, SqT.of hzr, rfl, zw, _, _, _, rfl, rfl, sqw, at0w, some (.int i), some (.ref zr), some (.ref z3), ?_, ?_, ts7.trans t8, jY e7 hz0⟩
    · rw [het, List.getLast?_append]
      rfl
    · rw [qC, het, List.map_append, List.map_append, hfl]
      rfl
  · rintro σ H' ⟨o1', o2', o3', rfl, hzl, ts, e⟩
    have em : rs.take us.length = rs := by rw [hrs.len, List.take_length]
    rw [em] at hzl ⊢
    have hend : wX "" (rs.getLast?) = "end" := by
      have : ∀ (rs : List Rw) (o : Option Int) (c : Str), OkL o c rs → wX c (rs.getLast?) = "end" := by
        intro rs
        induction rs with
        | nil => intro o c h; exact h
        | cons x xs ih =>
          intro o c h
          have := ih _ _ h.2.2.2
          cases xs with
          | nil => exact this
          | cons y ys =>
            rw [List.getLast?_cons_cons]
            have hs : ((y :: ys).getLast?).isSome = true := by simp
            cases hl : (y :: ys).getLast? with
            | none => rw [hl] at hs; cases hs
            | some v => rw [hl] at this; exact this
      exact this rs _ _ hL
    rw [hend]
    refine ⟨_, rfl, rfl, _, rfl, jE ⟨_, rfl, kk z H' e hz0 hzl⟩⟩
def wv : Option Im → Int → Im
  | some (.clip n p q r s _), l => .clip n p q r s l
  | some (.nest n b _), l => .nest n b l
  | some (.gap _), l => .gap l
  | some (.mix k), _ => .mix k
  | none, l => .gap l
def jC : List Rw → List Im
  | [] => []
  | r :: rs => match rs with
    | [] => []
    | r2 :: _ => wv r.m (r2.b - r.b) :: jC rs
theorem kn : ∀ {rs : List Rw} {i : Nat} {r r2 : Rw}, rs[i]? = some r → rs[i + 1]? = some r2 → (jC rs)[i]? = some (wv r.m (r2.b - r.b))
  | [], _, _, _, h, _ => by simp at h
  | [x], i, r, r2, _, h => by simp at h
  | x :: y :: rs, 0, r, r2, h1, h2 => by
    have e1 : x = r := by simpa using h1
    have e2 : y = r2 := by simpa using h2
    subst e1 e2
    rfl
  | x :: y :: rs, i + 1, r, r2, h1, h2 => by
    have := kn (rs := y :: rs) (i := i) (r := r) (r2 := r2) (by simpa using h1) (by simpa using h2)
    show (wv x.m (y.b - x.b) :: jC (y :: rs))[i + 1]? = _
    rw [List.getElem?_cons_succ]
    exact this
theorem xm : ∀ (rs : List Rw), (jC rs).length = rs.length - 1
  | [] => rfl
  | [_] => rfl
  | x :: y :: rs => by
    show (wv x.m (y.b - x.b) :: jC (y :: rs)).length = _
    rw [List.length_cons, xm (y :: rs)]
    simp
theorem OkL.ne {rs : List Rw} {i : Nat} {r r2 : Rw} (h : OkL none "" rs) (h1 : rs[i]? = some r) (h2 : rs[i + 1]? = some r2) : wdO r.m ≠ "end" := by
  have := h.at h2
  have hd := jy h2
  rw [hd] at this
  have ht : (rs.take (i + 1)).getLast? = some r := by
    rw [List.take_add_one, h1, List.getLast?_append]; rfl
  have h3 := this.1
  rw [ht] at h3
  exact h3
theorem wa (us : List V) (h : us ≠ []) : v8 us none (some (-1)) = us.dropLast := by
  have hl : 0 < us.length := List.length_pos_iff.mpr h
  have e1 : HT.sIx us.length 0 none = 0 := rfl
  have e2 : HT.sIx us.length us.length (some (-1)) = us.length - 1 := by
    unfold HT.sIx
    simp
    omega
  unfold v8
  rw [e1, e2, List.drop_zero, Nat.sub_zero, List.dropLast_eq_take]
theorem qEd {H : Hp} {im : Im} {u : V} {l : Int} (hm : im.wd ≠ "mix") (hw : WhV K H (some im) u) : ∃ (z : Addr) (xs : List V), u = .ref z ∧ SqT K H z xs ∧ xs ≠ [] ∧ xs.length ≤ 4 ∧ ∀ t H1, Same H H1 → H1 t = none → IsI (upd H1 t (.tup (xs ++ [.int l]))) (wv (some im) l) (.ref t) := by
  cases im with
  | clip n p q r s l' =>
    obtain ⟨z, x, y, e, hz, hx, hy⟩ := hw
    exact ⟨z, _, e, SqT.of hz, by simp, (by show 4 ≤ 4; decide), fun t H1 s1 ht => ⟨t, x, y, rfl, qC, (qD ht _) _ _ (s1 _ _ hx), (qD ht _) _ _ (s1 _ _ hy)⟩⟩
  | nest n b l' =>
    obtain ⟨z, e, hz⟩ := hw
    exact ⟨z, _, e, SqT.of hz, by simp, (by show 3 ≤ 4; decide), fun t H1 s1 ht => ⟨t, rfl, qC⟩⟩
  | gap l' =>
    obtain ⟨z, e, hz⟩ := hw
    exact ⟨z, _, e, SqT.of hz, by simp, (by show 1 ≤ 4; decide), fun t H1 s1 ht => ⟨t, rfl, qC⟩⟩
  | mix k => exact absurd rfl hm
def vh (K : W.Frag) : Sp := fun vs H Q _ => ∃ (l : Addr) (us : List V) (rs : List Rw) (x y : V) (r0 r1 o0 o1 : Int), vs = [.ref l, x, y] ∧ H l = some (.lst us) ∧ RowsG K H rs us ∧ rs.length ≤ 300 ∧ Rate H x r0 r1 ∧ Rate H y o0 o1 ∧ (∀ r ∈ rs, OkR r0 r1 o0 o1 r) ∧ OkL none "" rs ∧
  ∀ (z : Addr) (H' : Hp), Same H H' → H z = none → Tr H' z (jC rs) → Q (.ref z) H'
theorem zY (T : Tx K mg a) : FnOk P w K mg base CX0 7 a.a_read_back a.f_read_back ["rows", "rate", "other"] (vh K) := by
  refine T.d_read_back.F.ok sc_read_back (fun vs H Q E h => ?_) (fun cdv A outer s H vs Q E hr h => ?_)
  · obtain ⟨l, us, rs, x, y, r0, r1, o0, o1, rfl, _⟩ := h
    rfl
  obtain ⟨l, us, rs, x, y, r0, r1, o0, o1, rfl, hl, hrs, hlen, rx, ry, hok, hL, kk⟩ := h
  refine ⟨_, (qF (je (qI T.d_check_rates (xt T) hr rfl (qA (pv 1) (qA (pv 2) qE))))
      (qF (qX (i := 3) sc_read_back.nd rfl (Or.inl rfl) (qI T.d_borders_read (kB T) hr rfl (qA (pv 0) (qA (pv 1) (qA (pv 2) qE)))))
      (qF (qX (i := 4) sc_read_back.nd rfl (Or.inl rfl) (jT qE))
      (qF (zG PassesOwn.never rfl (qBm rfl T.b_enumerate (qA (zC wp (pv 0) wr (xz (xX jp qB))) qE)) (qAg rfl (jA (qo (i := 5) sc_read_back.nd rfl (Or.inl rfl)) (jA (qo (i := 6) sc_read_back.nd rfl (Or.inl rfl)) kM))) (qF (qX (i := 7) sc_read_back.nd rfl (Or.inl rfl) (qP qN (pv 6) qB (fun _ _ => rfl)))
      (qH (qp (qJ j0 (qP qN (pv 7) qB (fun _ _ => rfl)) qY (qM _)) (qH (je (zu F.plainAttrs_list F.slot_list_append F.type_list_append jL (pv 4) (qA (pv 7) qE)))) (qH (je (zu F.plainAttrs_list F.slot_list_append F.type_list_append jL (pv 4) (qA (qQ wt (pv 7) (qi (qA (qQ qCe (qP qh (pv 3) (qQ jF (pv 5) qB) (fun _ _ => rfl)) (qP qh (pv 3) (pv 5) (fun _ _ => rfl))) qE))) qE))))))))
      (qH (qO (pv 4))))))), ?_⟩
  try dsimp only [xJ, jD]
  refine ⟨_, rfl, _, rfl, x, y, rfl, rx.rt, ry.rt, ?_⟩
  refine ⟨_, rfl, _, rfl, _, rfl, l, us, rs, x, y, r0, r1, o0, o1, rfl, hl, hrs, hlen, rx, ry, hok, hL, fun zb H1 w1 zb0 hzb => ?_⟩
  refine ⟨sL0, fun z hz => ?_⟩
  have w2 := qD hz (.lst [])
  have w12 := w1.trans w2
  have hz0 : H z = none := w1.free hz
  have ez : (upd H1 z (.lst [])) z = some (.lst []) := qC
  have nzb : zb ≠ z := qL hzb hz
  have hzb := w2 _ _ hzb
  have hne : us ≠ [] := by
    intro e
    have := hrs.len
    rw [e] at this
    have hr0 : rs = [] := List.length_eq_zero_iff.mp this.symm
    rw [hr0] at hL
    exact absurd hL (by show ¬ (("" : Str) = "end"); decide +kernel)
  generalize upd H1 z (.lst []) = H2 at w12 ez hzb ⊢
  refine ⟨_, rfl, 1, rfl, _, rfl, l, us, rfl, SqL.of (w12 _ _ hl), fun lc hlc => ?_⟩
  rw [wa us hne]
  have w3 := qD hlc (.lst us.dropLast)
  have nlc : lc ≠ z := (qL ez hlc).symm
  have elc : (upd H2 lc (.lst us.dropLast)) lc = some (.lst us.dropLast) := qC
  have ez := w3 _ _ ez
  have hzb := w3 _ _ hzb
  have w13 := w12.trans w3
  generalize upd H2 lc (.lst us.dropLast) = H3 at w13 ez hzb elc ⊢
  have hul := hrs.len
  refine ⟨lc, rfl, ⟨_, SqL.of elc⟩, qAn (K := K) (a := lc) (xs := us.dropLast) (fun i σ H' => ∃ (o1' o2' o3' : Option V) (vs : List V), σ = [some (.ref l), some x, some y, some (.ref zb), some (.ref z), o1', o2', o3'] ∧ H' z = some (.lst vs) ∧ IsIs H' ((jC rs).take i) vs ∧ H' zb = some (.lst ((rs.map Rw.b).map V.int)) ∧ H' lc = some (.lst us.dropLast) ∧ Same H H')
    ⟨none, none, none, [], rfl, ez, trivial, hzb, elc, w13⟩ ?_ ?_ ?_⟩
  · rintro i σ H' hi ⟨_, _, _, _, _, _, _, _, h, _⟩
    exact SqL.of h
  · rintro i v σ H' pe hv ⟨o1', o2', o3', vs, rfl, hzl, his, hzb, hlc', e⟩ hpe
    have hiu : i < us.length - 1 := by have := glt hv; rwa [List.length_dropLast] at this
    have hv' : us[i]? = some v := by
      rw [List.dropLast_eq_take, List.getElem?_take_of_lt hiu] at hv
      exact hv
    obtain ⟨r, hr', hRow⟩ := hrs.get hv'
    obtain ⟨r2, hr2⟩ : ∃ r2, rs[i + 1]? = some r2 := ⟨_, List.getElem?_eq_getElem (by omega)⟩
    have hnE := hL.ne hr' hr2
    have htk : (jC rs).take (i + 1) = (jC rs).take i ++ [wv r.m (r2.b - r.b)] := by rw [List.take_add_one, kn hr' hr2]; rfl
    have hvl : vs.length ≤ 300 := by rw [his.len, List.length_take, xm]; omega
    have w4 := qD hpe (.tup [.int i, v])
    refine ⟨pe, _, rfl, SqT.of qC, rfl, _, _, rfl, _, _, rfl, rfl, ?_⟩
    have e4 := e.trans w4
    have hzl := w4 _ _ hzl
    have hzb := w4 _ _ hzb
    have hlc' := w4 _ _ hlc'
    have his := his.ts (qK w4)
    have hRow := hRow.ts (qK e4)
    generalize upd H' pe (.tup [.int i, v]) = H4 at e4 hzl hzb hlc' his hRow ⊢
    obtain ⟨zr, xr, ur, rfl, hzr, hxr, hwr⟩ := id hRow
    obtain ⟨zw, xw, rfl, sqw, at0w⟩ := hwr.w0
    refine ⟨_, rfl, zr, _, _, _, rfl, rfl, SqT.of hzr, rfl, ?_⟩
    obtain ⟨im, him⟩ : ∃ im, r.m = some im := by
      cases hm : r.m with
      | none => rw [hm] at hnE; exact absurd rfl hnE
      | some im => exact ⟨im, rfl⟩
    rw [him] at hwr at0w htk
    refine ⟨_, rfl, zw, _, _, _, rfl, rfl, sqw, at0w, rfl, _, rfl, zH (fun c => ?_) (fun c => ?_)⟩
    · obtain ⟨k, rfl⟩ := qDe (m := im) (by simpa [wdO] using c)
      refine ⟨_, rfl, .inl ⟨rfl, _, SqL.of hzl⟩, _, rfl, z, _, _, rfl, rfl, hzl, qd (by omega), ?_⟩
      have t5 : TS H4 (upd H4 z (.lst (vs ++ [.ref zw]))) := j2 hzl
      refine ⟨_, _, _, _, rfl, qC, ?_, by rw [qW nzb]; exact hzb, by rw [qW nlc]; exact hlc', jY e4 hz0⟩
      rw [htk]
      exact (his.app (.one (show IsI H4 (.mix k) (.ref zw) from hwr))).ts t5
    · obtain ⟨z', xs', e', sq', hx0, hx4, hset⟩ := qEd (l := r2.b - r.b) (by simpa [wdO] using c) hwr
      cases e'
      have bi : ((rs.map Rw.b).map V.int)[i]? = some (.int r.b) := by rw [List.getElem?_map, List.getElem?_map, hr']; rfl
      have bi2 : ((rs.map Rw.b).map V.int)[i + 1]? = some (.int r2.b) := by rw [List.getElem?_map, List.getElem?_map, hr2]; rfl
      have ai : atI ((rs.map Rw.b).map V.int) (i : Int) = some (.int r.b) := zN bi
      have ai2 : atI ((rs.map Rw.b).map V.int) ((i : Int) + 1) = some (.int r2.b) := zN (j := i + 1) bi2
      refine ⟨_, rfl, .inl ⟨rfl, _, SqL.of hzl⟩, _, rfl, _, rfl, _, rfl, _, _, rfl, rfl, zb, _, _, _, rfl, rfl, SqL.of hzb, ai2, _, rfl, _, rfl, zb, _, _, _, rfl, rfl, SqL.of hzb, ai, _, _, rfl, rfl, sL1, fun t2 ht2 => ?_⟩
      have w5 := qD ht2 (.tup [.int (r2.b - r.b)])
      refine ⟨zw, t2, xs', _, rfl, rfl, L3.Same.tup w5 sq', SqT.of qC, hx0, Nat.le_of_lt (qd (by rw [List.length_singleton]; omega)), fun z => absurd z (by simp), fun _ t3 ht3 => ?_⟩
      have w6 := qD ht3 (.tup (xs' ++ [.int (r2.b - r.b)]))
      have w56 := w5.trans w6
      have hI := hset t3 _ w5 ht3
      have hzl6 := w56 _ _ hzl
      refine ⟨z, _, _, rfl, rfl, hzl6, qd (by omega), ?_⟩
      have t7 := j2 (o := .lst (vs ++ [.ref t3])) hzl6
      refine ⟨_, _, _, _, rfl, qC, ?_, by rw [qW nzb]; exact w56 _ _ hzb, by rw [qW nlc]; exact w56 _ _ hlc', jY (e4.trans w56) hz0⟩
      rw [htk]
      exact ((his.ts (qK w56)).app (.one hI)).ts t7
  · rintro σ H' ⟨o1', o2', o3', vs, rfl, hzl, his, _, _, e⟩
    have em : (jC rs).take us.dropLast.length = jC rs := by
      rw [List.length_dropLast, hul, ← xm, List.take_length]
    rw [em] at his
    exact ⟨_, rfl, kk z H' e hz0 ⟨vs, hzl, his⟩⟩
def kY (K : W.Frag) : Sp := fun vs H Q _ => ∃ (n : Int) (z : Addr) (ss : List Int), vs = [.int n, .ref z] ∧ SqL K H z (ss.map V.int) ∧ ss.length ≤ 60 ∧ (∀ s ∈ ss, 0 < s ∧ s ≤ 60000) ∧
  ∀ (y : Addr) (ds : List Int), H y = none → ds.length = ss.length → (∀ (i : Nat) (d s : Int), ds[i]? = some d → ss[i]? = some s → 0 ≤ d ∧ d < s) → Q (.ref y) (upd H y (.lst (ds.map V.int)))
theorem xu (T : Tx K mg a) : FnOk P w K mg base CX0 1 a.a__law_digits a.f__law_digits ["_law_number", "_law_sizes"] (kY K) := by
  refine T.d__law_digits.F.ok sc__law_digits (fun vs H Q E h => ?_) (fun cdv A outer s H vs Q E hr h => ?_)
  · obtain ⟨n, z, ss, rfl, _⟩ := h
    rfl
  obtain ⟨n, z, ss, rfl, hS, hl, hss, kk⟩ := h
  refine ⟨_, (qF (qX (i := 2) sc__law_digits.nd rfl (Or.inl rfl) (jT qE))
      (qF (zG PassesOwn.never rfl (xx (pv 1)) (qo (i := 3) sc__law_digits.nd rfl (Or.inl rfl)) (qF (je (zu F.plainAttrs_list F.slot_list_append F.type_list_append jL (pv 2) (qA (qQ qj (pv 0) (pv 3)) qE)))
      (qH (qX (i := 0) sc__law_digits.nd rfl (Or.inl rfl) (qQ qk (pv 0) (pv 3))))))
      (qH (qO (pv 2))))), ?_⟩
  try dsimp only [xJ, jD]
  refine ⟨sL0, fun y hy => ?_⟩
  have wy : ∀ (xs : List V), Same H (upd H y (.lst xs)) := fun xs => qD hy _
  refine ⟨_, rfl, z, rfl, ⟨_, (wy []).seq hS⟩, vD (K := K) (a := z) (xs := ss.map V.int) (fun i σ H' => ∃ (ds : List Int) (n' : Int) (o : Option V), σ = [some (.int n'), some (.ref z), some (.ref y), o] ∧ H' = upd H y (.lst (ds.map V.int)) ∧ ds.length = i ∧ (∀ (j : Nat) (d s : Int), ds[j]? = some d → ss[j]? = some s → 0 ≤ d ∧ d < s))
    ⟨[], n, none, rfl, rfl, rfl, by simp⟩ ?_ ?_ ?_⟩
  · rintro i σ H' hi ⟨ds, n', o, _, rfl, _, _⟩
    exact (wy _).seq hS
  · rintro i x σ H' hx ⟨ds, n', o, rfl, rfl, hdl, hd⟩
    obtain ⟨c, hc, rfl⟩ : ∃ c : Int, ss[i]? = some c ∧ x = .int c := by
      rw [List.getElem?_map] at hx
      cases e : ss[i]? with
      | none => rw [e] at hx; cases hx
      | some c => rw [e] at hx; exact ⟨c, rfl, (Option.some.inj hx).symm⟩
    have b := hss c (List.mem_of_getElem? hc)
    have f := fm n' b.1
    have hi := glt hc
    refine ⟨_, rfl, .inl ⟨rfl, _, SqL.of qC⟩, _, rfl, _, rfl, _, _, rfl, rfl, by show c ≠ 0; omega, y, _, _, rfl, rfl, qC, qd (by rw [List.length_map]; omega), ?_⟩
    refine ⟨_, rfl, _, rfl, _, _, rfl, rfl, cdB (by omega) (by omega), ds ++ [n'.fmod c], _, _, rfl, ?_, ?_, ?_⟩
    · rw [wo, List.map_append]; rfl
    · rw [List.length_append, hdl]; rfl
    · intro j d s' hj hs'
      rcases Nat.lt_or_ge j ds.length with h | h
      · rw [List.getElem?_append_left h] at hj
        exact hd j d s' hj hs'
      · have hj' := glt hj
        rw [List.length_append] at hj'
        have ej : j = ds.length := by simp at hj'; omega
        subst ej
        rw [List.getElem?_append_right (Nat.le_refl _), Nat.sub_self] at hj
        have e1 : d = n'.fmod c := by simpa using hj.symm
        rw [hdl, hc] at hs'
        cases hs'
        rw [e1]; exact f
  · rintro σ H' ⟨ds, n', o, rfl, rfl, hdl, hd⟩
    rw [List.length_map] at hdl
    exact ⟨_, rfl, kk y ds hy hdl hd⟩
theorem qB1 : ∀ i : Fin 26, xp ⟨#[("abcdefghijklmnopqrstuvwxyz" : Str).cps.toList[i.val]!]⟩ = true := by decide +kernel
theorem wj : ("abcdefghijklmnopqrstuvwxyz" : Str).cps.toList.length = 26 := by decide +kernel
def kK (K : W.Frag) : Sp := fun vs H Q _ => ∃ (z : Addr) (d0 d1 d2 d3 d4 d5 d6 d7 : Int), vs = [.ref z] ∧ SqL K H z [.int d0, .int d1, .int d2, .int d3, .int d4, .int d5, .int d6, .int d7] ∧ 0 ≤ d1 ∧ d1 < 5000 ∧ 0 ≤ d2 ∧ d2 < 4001 ∧ 0 ≤ d3 ∧ d3 < 30 ∧ 0 ≤ d4 ∧ d4 < 4001 ∧ 0 ≤ d5 ∧ d5 < 30 ∧ 0 ≤ d6 ∧ d6 < 26 ∧
  ∀ (m : Im) (v : V) (H' : Hp), Same H H' → IsI H' m v → GI m → m.wd ≠ "mix" → Q v H'
theorem kU (T : Tx K mg a) : FnOk P w K mg base CX0 2 a.a__law_item_of a.f__law_item_of ["_law_digits_here"] (kK K) := by
  refine T.d__law_item_of.F.ok sc__law_item_of (fun vs H Q E h => ?_) (fun cdv A outer s H vs Q E hr h => ?_)
  · obtain ⟨z, d0, d1, d2, d3, d4, d5, d6, d7, rfl, _⟩ := h
    rfl
  obtain ⟨z, d0, d1, d2, d3, d4, d5, d6, d7, rfl, hz, a1, b1, a2, b2, a3, b3, a4, b4, a5, b5, a6, b6, kk⟩ := h
  refine ⟨_, (qF (qD2 (pv 0) (qEs rfl (jA (qo (i := 1) sc__law_item_of.nd rfl (Or.inl rfl)) (jA (qo (i := 2) sc__law_item_of.nd rfl (Or.inl rfl)) (jA (qo (i := 3) sc__law_item_of.nd rfl (Or.inl rfl)) (jA (qo (i := 4) sc__law_item_of.nd rfl (Or.inl rfl)) (jA (qo (i := 5) sc__law_item_of.nd rfl (Or.inl rfl)) (jA (qo (i := 6) sc__law_item_of.nd rfl (Or.inl rfl)) (jA (qo (i := 7) sc__law_item_of.nd rfl (Or.inl rfl)) (jA (qo (i := 8) sc__law_item_of.nd rfl (Or.inl rfl)) kM))))))))))
      (qF (qX (i := 9) sc__law_item_of.nd rfl (Or.inl rfl) (qP qFs qY (pv 7) (fun _ _ => rfl)))
      (qF (qp (qJ j0 (pv 1) qB (qM _)) (qH (qO (qi (qA qY (qA (qQ jF qB (pv 2)) qE))))) qU)
      (qF (qp (qJ j0 (pv 1) qB (qM _)) (qH (qO (qi (qA qY (qA (pv 9) (qA (pv 3) (qA (qQ jF qB (pv 2)) qE))))))) qU)
      (qH (qO (qi (qA qY (qA (pv 9) (qA (qI T.d__law_lowest (jz T) hr rfl (qA (qQ qCe (pv 3) qB) (qA (qQ jF qB (pv 4)) qE))) (qA (qI T.d__law_lowest (jz T) hr rfl (qA (qQ qCe (pv 5) qB) (qA (qQ jF qB (pv 6)) qE))) (qA (qQ jF qB (pv 2)) qE)))))))))))), ?_⟩
  try dsimp only [xJ, jD]
  refine ⟨_, rfl, z, _, rfl, hz, rfl, _, _, rfl, _, _, rfl, _, _, rfl, _, _, rfl, _, _, rfl, _, _, rfl, _, _, rfl, _, _, rfl, rfl, ?_⟩
  have hlt : d6.toNat < 26 := by omega
  have hat : atI ("abcdefghijklmnopqrstuvwxyz" : Str).cps.toList d6 = some (("abcdefghijklmnopqrstuvwxyz" : Str).cps.toList[d6.toNat]!) := by
    have e : d6 = ((d6.toNat : Nat) : Int) := by omega
    have hl : d6.toNat < ("abcdefghijklmnopqrstuvwxyz" : Str).cps.toList.length := by rw [wj]; exact hlt
    have h1 : ("abcdefghijklmnopqrstuvwxyz" : Str).cps.toList[d6.toNat]? = some (("abcdefghijklmnopqrstuvwxyz" : Str).cps.toList[d6.toNat]!) := by
      simp only [List.getElem!_eq_getElem?_getD, List.getElem?_eq_getElem hl, Option.getD_some]
    have h2 := zN h1
    rw [← e] at h2
    exact h2
  have hnm := qB1 ⟨d6.toNat, hlt⟩
  refine ⟨_, rfl, _, _, _, rfl, rfl, (by decide +kernel), hat, ?_⟩
  dsimp only at hnm
  generalize (⟨#[("abcdefghijklmnopqrstuvwxyz" : Str).cps.toList[d6.toNat]!]⟩ : Str) = nm at hnm ⊢
  have hn8 : nm.length ≤ 8 := by
    unfold xp at hnm
    simp only [Bool.and_eq_true, decide_eq_true_eq] at hnm
    exact hnm.1.2
  refine ⟨_, rfl, rfl, _, rfl, zH (fun _ => ?_) (fun _ => ?_)⟩
  · refine ⟨_, rfl, _, _, rfl, rfl, two, fun u hu => ?_⟩
    exact kk (.gap (1 + d1)) _ _ (qD hu _) ⟨u, rfl, qC⟩ ⟨by omega, by omega⟩ (by show ("gap" : Str) ≠ "mix"; decide +kernel)
  refine ⟨_, rfl, rfl, _, rfl, zH (fun _ => ?_) (fun _ => ?_)⟩
  · refine ⟨_, rfl, _, rfl, _, rfl, _, _, rfl, rfl, sL4, fun u hu => ?_⟩
    exact kk (.nest nm d2 (1 + d1)) _ _ (qD hu _) ⟨u, rfl, qC⟩ ⟨hnm, hn8, a2, by omega, by omega⟩ (by show ("nest" : Str) ≠ "mix"; decide +kernel)
  have t20 : ∀ {i : Int}, -5000 < i → i < 5000 → i.natAbs < 2 ^ 40 := fun h1 h2 => Nat.lt_of_lt_of_le (show _ < 2 ^ 13 by omega) (by decide)
  refine ⟨_, rfl, _, rfl, _, _, rfl, rfl, _, rfl, _, _, rfl, rfl, _, _, rfl, by omega, wb (n := 40) (t20 (by omega) (by omega)), fun p hp => ?_⟩
  have w4 := qD hp (.tup [.int (jO (d2 - 2000) (1 + d3)), .int (qm (d2 - 2000) (1 + d3))])
  refine ⟨_, rfl, _, _, rfl, rfl, _, rfl, _, _, rfl, rfl, _, _, rfl, by omega, wb (n := 40) (t20 (by omega) (by omega)), fun q hq => ?_⟩
  have w5 := qD hq (.tup [.int (jO (d4 - 2000) (1 + d5)), .int (qm (d4 - 2000) (1 + d5))])
  refine ⟨_, rfl, _, _, rfl, rfl, sL5, fun u hu => ?_⟩
  have w6 := qD hu (.tup [.str "clip", .str nm, .ref p, .ref q, .int (1 + d1)])
  have g1 : Good 40 (jO (d2 - 2000) (1 + d3)) (qm (d2 - 2000) (1 + d3)) := qAf (by omega) (t20 (by omega) (by omega)) (t20 (by omega) (by omega))
  have g2 : Good 40 (jO (d4 - 2000) (1 + d5)) (qm (d4 - 2000) (1 + d5)) := qAf (by omega) (t20 (by omega) (by omega)) (t20 (by omega) (by omega))
  exact kk (.clip nm _ _ _ _ (1 + d1)) _ _ ((w4.trans w5).trans w6) ⟨u, p, q, rfl, qC, w6 _ _ (w5 _ _ qC), w6 _ _ qC⟩ ⟨hnm, hn8, g1, g2, by omega, by omega⟩ (by show ("clip" : Str) ≠ "mix"; decide +kernel)
def SZ : List Int := [5, 5000, 4001, 30, 4001, 30, 26, 9]
theorem qDt : ∀ (k i j : Nat), i < k → j < 8 → ((List.replicate k SZ).flatten)[8 * i + j]? = SZ[j]?
  | 0, i, j, h, _ => by omega
  | k + 1, 0, j, _, hj => by
    rw [List.replicate_succ, List.flatten_cons, Nat.mul_zero, Nat.zero_add, List.getElem?_append_left (by show j < 8; exact hj)]
  | k + 1, i + 1, j, h, hj => by
    rw [List.replicate_succ, List.flatten_cons, List.getElem?_append_right (by show 8 ≤ _; omega)]
    have e : 8 * (i + 1) + j - SZ.length = 8 * i + j := by show 8 * (i + 1) + j - 8 = _; omega
    rw [e]
    exact qDt k i j (by omega) hj
theorem qHh (ds : List Int) (i : Nat) (h : 8 * i + 8 ≤ ds.length) : ∃ d0 d1 d2 d3 d4 d5 d6 d7 : Int, v8 (ds.map V.int) (some (8 * (0 + (i : Int)))) (some (8 * (0 + (i : Int)) + 8)) = [.int d0, .int d1, .int d2, .int d3, .int d4, .int d5, .int d6, .int d7] ∧
    ds[8 * i]? = some d0 ∧ ds[8 * i + 1]? = some d1 ∧ ds[8 * i + 2]? = some d2 ∧ ds[8 * i + 3]? = some d3 ∧ ds[8 * i + 4]? = some d4 ∧ ds[8 * i + 5]? = some d5 ∧ ds[8 * i + 6]? = some d6 ∧ ds[8 * i + 7]? = some d7 := by
  have g : ∀ j, j < 8 → ∃ d, ds[8 * i + j]? = some d := fun j hj => ⟨_, List.getElem?_eq_getElem (by omega)⟩
  obtain ⟨d0, h0⟩ := g 0 (by decide)
  obtain ⟨d1, h1⟩ := g 1 (by decide)
  obtain ⟨d2, h2⟩ := g 2 (by decide)
  obtain ⟨d3, h3⟩ := g 3 (by decide)
  obtain ⟨d4, h4⟩ := g 4 (by decide)
  obtain ⟨d5, h5⟩ := g 5 (by decide)
  obtain ⟨d6, h6⟩ := g 6 (by decide)
  obtain ⟨d7, h7⟩ := g 7 (by decide)
  refine ⟨d0, d1, d2, d3, d4, d5, d6, d7, ?_, h0, h1, h2, h3, h4, h5, h6, h7⟩
  unfold v8
  rw [show 8 * (0 + (i : Int)) + 8 = ((8 * i + 8 : Nat) : Int) by omega, show 8 * (0 + (i : Int)) = ((8 * i : Nat) : Int) by omega, HT.sIx_nat, HT.sIx_nat, List.length_map, Nat.min_eq_left (by omega), Nat.min_eq_left (by omega), ← List.map_drop]
  have e : ds.drop (8 * i) = d0 :: d1 :: d2 :: d3 :: d4 :: d5 :: d6 :: d7 :: ds.drop (8 * i + 7 + 1) := by
    rw [jy (i := 8 * i) (x := d0) h0, jy h1, jy h2, jy h3, jy h4, jy h5, jy h6, jy h7]
  rw [e, show 8 * i + 8 - 8 * i = 8 by omega]
  rfl
def zR : Sp := fun vs H Q _ => ∃ n : Int, vs = [.int n] ∧ ∀ (y : Addr) (ms : List Im) (H' : Hp), Same H H' → H y = none → Tr H' y ms → ms.length ≤ 126 → (∀ m ∈ ms, GI m) → Chn "" ms → qr "" ms ≠ "mix" → qr "" ms ≠ "gap" → Q (.ref y) H'
theorem zM (T : Tx K mg a) : FnOk P w K mg base CX0 3 a.a__law_by_digits a.f__law_by_digits ["_law_number"] zR := by
  refine T.d__law_by_digits.F.ok sc__law_by_digits (fun vs H Q E h => ?_) (fun cdv A outer s H vs Q E hr h => ?_)
  · obtain ⟨n, rfl, _⟩ := h
    rfl
  obtain ⟨n, rfl, kk⟩ := h
  have hu := hr.units
  refine ⟨_, (qF (qX (i := 1) sc__law_by_digits.nd rfl (Or.inl rfl) (jT (qA qB (qA qB (qA qB (qA qB (qA qB (qA qB (qA qB (qA qB qE))))))))))
      (qF (qX (i := 2) sc__law_by_digits.nd rfl (Or.inl rfl) (qI T.d__law_digits (xu T) hr rfl (qA (qQ qk (pv 0) qB) (qA (qQ qF9 (pv 1) (qQ qj (pv 0) qB)) qE))))
      (qF (qX (i := 3) sc__law_by_digits.nd rfl (Or.inl rfl) (jT qE))
      (qF (zG PassesOwn.never rfl (x9 rfl T.b_range (qA (qQ qj (pv 0) qB) qE)) (qo (i := 4) sc__law_by_digits.nd rfl (Or.inl rfl)) (qF (qX (i := 5) sc__law_by_digits.nd rfl (Or.inl rfl) (zC wp (pv 2) (xz (qQ jV qB (pv 4))) (xz (qQ jF (qQ jV qB (pv 4)) qB))))
      (qF (qX (i := 6) sc__law_by_digits.nd rfl (Or.inl rfl) (qI T.d__law_item_of (kU T) hr rfl (qA (pv 5) qE)))
      (qF (wV (qp (ku (PW.pt (zZ (qJ j0 (qP qN (pv 6) qB (fun _ _ => rfl)) qY (qM _)) (zZ (qJ (kR hu) (pv 3) (jT qE) (qM _)) (zZ (qJ j0 (qP qN (qP qh (pv 3) (xX jp qB) (fun _ _ => rfl)) qB (fun _ _ => rfl)) qY (qM _)) (vU (qJ qE0 (qP qh (pv 5) qB (fun _ _ => rfl)) qB (qM _)))))))) (qH (je (zu F.plainAttrs_list F.slot_list_append F.type_list_append jL (pv 3) (qA (qi (qA qY (qA (qP qh (pv 5) qB (fun _ _ => rfl)) qE))) qE)))) qU))
      (qH (qp (ku (PW.pt (j4 (qJ xb (qP qN (pv 6) qB (fun _ _ => rfl)) qY (qM _)) (j4 (qJ (v9 hu) (pv 3) (jT qE) (qM _)) (jm (qJ xb (qP qN (qP qh (pv 3) (xX jp qB) (fun _ _ => rfl)) qB (fun _ _ => rfl)) qY (qM _))))))) (qH (je (zu F.plainAttrs_list F.slot_list_append F.type_list_append jL (pv 3) (qA (pv 6) qE)))) qU))))))
      (qF (qp (ku (PW.pt (zZ (qJ (kR hu) (pv 3) (jT qE) (qM _)) (vU (qJ j0 (qP qN (qP qh (pv 3) (xX jp qB) (fun _ _ => rfl)) qB (fun _ _ => rfl)) qY (qM _)))))) (qH (je (qDs F.plainAttrs_list F.slot_list_pop F.type_list_pop qD0 (pv 3)))) qU)
      (qH (qO (pv 3)))))))), ?_⟩
  try dsimp only [xJ, jD]
  have f8 := fm n (show (0 : Int) < 8 by decide)
  refine ⟨(by show 8 ≤ sizeLine; decide), fun zs hzs => ?_⟩
  have u0 := qD hzs (.lst [.int 5, .int 5000, .int 4001, .int 30, .int 4001, .int 30, .int 26, .int 9])
  refine ⟨_, rfl, _, _, rfl, rfl, cdB (by decide) (by decide), _, rfl, _, rfl, _, _, rfl, rfl, nz, zs, _, _, rfl, rfl, qC, by omega, by omega, Nat.le_of_lt (qd (by show 8 * _ ≤ 1000; omega)), fun zr hzr => ?_⟩
  have er : (List.replicate (n.fmod 8).toNat [V.int 5, .int 5000, .int 4001, .int 30, .int 4001, .int 30, .int 26, .int 9]).flatten = ((List.replicate (n.fmod 8).toNat SZ).flatten).map V.int := by
    rw [List.map_flatten, List.map_replicate]; rfl
  rw [er]
  have u1 := qD hzr (.lst (((List.replicate (n.fmod 8).toNat SZ).flatten).map V.int))
  have hszl : ((List.replicate (n.fmod 8).toNat SZ).flatten).length = (n.fmod 8).toNat * 8 := qBu _ _
  refine ⟨_, zr, _, rfl, SqL.of qC, by rw [hszl]; omega, ?_, fun zd ds hzd0 hdl hdb => ?_⟩
  · intro x hx
    obtain ⟨l, hl, hx⟩ := List.mem_flatten.mp hx
    rw [List.eq_of_mem_replicate hl] at hx
    simp only [SZ, List.mem_cons, List.not_mem_nil, or_false] at hx
    omega
  have u2 := qD hzd0 (.lst (ds.map V.int))
  rw [hszl] at hdl
  refine ⟨sL0, fun y hy' => ?_⟩
  have u3 := qD hy' (.lst [])
  have u02 := (u0.trans u1).trans u2
  have hy : H y = none := u02.free hy'
  have u := u02.trans u3
  have nzd : zd ≠ y := qL qC hy'
  have hzd := u3 _ _ (qC (H := upd (upd H zs (.lst [.int 5, .int 5000, .int 4001, .int 30, .int 4001, .int 30, .int 26, .int 9])) zr (.lst (((List.replicate (n.fmod 8).toNat SZ).flatten).map V.int))) (a := zd) (o := .lst (ds.map V.int)))
  have ey := qC (H := upd (upd (upd H zs (.lst [.int 5, .int 5000, .int 4001, .int 30, .int 4001, .int 30, .int 26, .int 9])) zr (.lst (((List.replicate (n.fmod 8).toNat SZ).flatten).map V.int))) zd (.lst (ds.map V.int))) (a := y) (o := .lst [])
  clear u0 u1 u2 u3 u02 hzs hzr hzd0 hy' er
  generalize upd (upd (upd (upd H zs _) zr _) zd _) y _ = H0 at u hzd ey ⊢
  refine ⟨_, rfl, _, _, rfl, rfl, nz, _, rfl, by omega, by omega, zA (n := (n.fmod 8).toNat) (fun i σ H' => ∃ (o1 o2 o3 : Option V) (ms : List Im) (vs : List V), σ = [some (.int n), some (.ref zs), some (.ref zd), some (.ref y), o1, o2, o3] ∧ H' y = some (.lst vs) ∧ IsIs H' ms vs ∧ ms.length ≤ 2 * i ∧ (∀ m ∈ ms, GI m) ∧ Chn "" ms ∧ qr "" ms ≠ "mix" ∧ H' zd = some (.lst (ds.map V.int)) ∧ Same H H')
    ⟨none, none, none, [], [], rfl, ey, trivial, by simp, by simp, trivial, by decide +kernel, hzd, u⟩ ?_ ?_⟩
  · rintro i σ H' hi ⟨o1, o2, o3, ms, vs, rfl, hv, hiv, hml', hg, hc, hnm, hzd, e⟩
    have hvl : vs.length ≤ 2 * i := by rw [hiv.len]; exact hml'
    obtain ⟨d0, d1, d2, d3, d4, d5, d6, d7, hcut, g0, g1, g2, g3, g4, g5, g6, g7⟩ := qHh ds i (by omega)
    have bd : ∀ (j : Nat) (d s : Int), j < 8 → ds[8 * i + j]? = some d → SZ[j]? = some s → 0 ≤ d ∧ d < s := fun j d s hj h1 h2 => hdb (8 * i + j) d s h1 (by rw [qDt _ _ _ hi hj]; exact h2)
    have q1 := bd 1 d1 5000 (by decide) g1 rfl
    have q2 := bd 2 d2 4001 (by decide) g2 rfl
    have q3 := bd 3 d3 30 (by decide) g3 rfl
    have q4 := bd 4 d4 4001 (by decide) g4 rfl
    have q5 := bd 5 d5 30 (by decide) g5 rfl
    have q6 := bd 6 d6 26 (by decide) g6 rfl
    refine ⟨_, rfl, _, rfl, _, _, rfl, rfl, cmL (by decide) (by decide), _, rfl, _, rfl, _, _, rfl, rfl, cmL (by decide) (by decide), _, _, rfl, rfl, _, rfl, zd, _, rfl, SqL.of hzd, fun p8 hp8 => ?_⟩
    rw [hcut]
    have w1 := qD hp8 (.lst [.int d0, .int d1, .int d2, .int d3, .int d4, .int d5, .int d6, .int d7])
    have h8 := qC (H := H') (a := p8) (o := .lst [.int d0, .int d1, .int d2, .int d3, .int d4, .int d5, .int d6, .int d7])
    generalize upd H' p8 (.lst [.int d0, .int d1, .int d2, .int d3, .int d4, .int d5, .int d6, .int d7]) = H1 at w1 h8 ⊢
    refine ⟨_, rfl, p8, d0, d1, d2, d3, d4, d5, d6, d7, rfl, SqL.of h8, q1.1, q1.2, q2.1, q2.2, q3.1, q3.2, q4.1, q4.2, q5.1, q5.2, q6.1, q6.2, fun m v H2 w2 hI hGm hmm => ?_⟩
    have w12 := w1.trans w2
    have hv := w12 _ _ hv
    have hiv := hiv.ts (qK w12)
    have e2 := e.trans w12
    have hzd := w12 _ _ hzd
    have h8 := w2 _ _ h8
    obtain ⟨zi, xi, rfl, hzi, h0, _⟩ := hI.opn
    refine ⟨fun σ H4 => ∃ (ms2 : List Im) (vs2 : List V), σ = [some (.int n), some (.ref zs), some (.ref zd), some (.ref y), some (.int (0 + (i : Int))), some (.ref p8), some (.ref zi)] ∧ H4 y = some (.lst vs2) ∧ IsIs H4 ms2 vs2 ∧ ms2.length ≤ 2 * i + 1 ∧ (∀ m ∈ ms2, GI m) ∧ Chn "" ms2 ∧ (qr "" ms2 = "mix" → m.wd = "clip") ∧ IsI H4 m (.ref zi) ∧ H4 zd = some (.lst (ds.map V.int)) ∧ Same H H4, ?_, ?_⟩
    · refine ⟨fun b H3 => Same H2 H3 ∧ (b = true → m.wd = "clip" ∧ qr "" ms = "clip" ∧ 0 < d7), ?_, ?_⟩
      · refine ⟨_, rfl, zi, xi, _, _, rfl, rfl, SqT.of hzi, h0, rfl, _, rfl, zH (fun c => ?_) (fun _ => ⟨Same.refl _, fun z => by cases z⟩)⟩
        have hmc : m.wd = "clip" := by simpa using c
        refine ⟨_, rfl, sL0, fun en hen => qC1 ⟨vs, (qD hen _) _ _ hv, hiv.ts (qK (qD hen _))⟩ qC ⟨_, rfl, ?_⟩⟩
        have w3 := qD hen (.lst [])
        cases hms : ms with
        | nil => exact jE ⟨w3, fun z => by cases z⟩
        | cons m0 ms0 =>
          refine j9 ?_
          obtain ⟨v, m', h1, h2, _, h4⟩ := (hiv.ts (qK w3)).last (by rw [hms]; simp)
          obtain ⟨zl, xl, rfl, hzl, hl0, _⟩ := h4.opn
          refine ⟨_, rfl, _, rfl, y, _, _, _, rfl, rfl, SqL.of (w3 _ _ hv), xE h1, zl, xl, _, _, rfl, rfl, SqT.of hzl, hl0, rfl, _, rfl, zH (fun c => ?_) (fun _ => ⟨w3, fun z => by cases z⟩)⟩
          have hlc : qr "" ms = "clip" := by unfold qr; rw [h2]; simpa using c
          exact ⟨_, rfl, p8, _, _, _, rfl, rfl, SqL.of (w3 _ _ h8), rfl, _, _, rfl, rfl, _, rfl, w3, fun z => ⟨hmc, by rw [← hms]; exact hlc, by simpa using z⟩⟩
      rintro b H3 ⟨w3, hb⟩
      have e3 := e2.trans w3
      have hv := w3 _ _ hv
      have hiv := hiv.ts (qK w3)
      have hI := hI.ts (qK w3)
      have hd3 := w3 _ _ hzd
      have h8 := w3 _ _ h8
      cases b with
      | false => exact jE ⟨ms, vs, rfl, hv, hiv, by omega, hg, hc, fun z => absurd z hnm, hI, hd3, e3⟩
      | true =>
        obtain ⟨hmc, hlc, h7⟩ := hb rfl
        refine j9 ⟨_, rfl, .inl ⟨rfl, _, SqL.of hv⟩, _, rfl, p8, _, _, _, rfl, rfl, SqL.of h8, rfl, two, fun g hgn => ?_⟩
        have w4 := qD hgn (.tup [.str "mix", .int d7])
        refine ⟨y, _, _, rfl, rfl, w4 _ _ hv, qd (by omega), ?_⟩
        refine ⟨ms ++ [.mix d7], _, rfl, qC, ((hiv.ts (qK w4)).app (.one (isM qC))).ts (j2 (w4 _ _ hv)), by simp; omega, ?_, hc.snoc ?_, fun _ => hmc, (hI.ts (qK w4)).ts (j2 (w4 _ _ hv)), by rw [qW nzd]; exact w4 _ _ hd3, jY (e3.trans w4) hy⟩
        · intro m hm
          rcases List.mem_append.mp hm with hm | hm
          · exact hg m hm
          · have : m = .mix d7 := by simpa using hm
            rw [this]; show 1 ≤ d7; omega
        · rw [hlc]; show wS "clip" "mix" = true; decide +kernel
    rintro σ H4 ⟨ms2, vs2, rfl, hv, hiv, hml2, hg2, hc2, hlm, hI, hd4, e4⟩
    have hvl2 : vs2.length ≤ 2 * i + 1 := by rw [hiv.len]; exact hml2
    obtain ⟨zi', xi', ez, hzi, h0, _⟩ := hI.opn
    cases ez
    refine ⟨fun b H5 => Same H4 H5 ∧ (b = true → m.wd = "gap" → qr "" ms2 ≠ "gap") ∧ (b = false → m.wd = "gap"), ?_, ?_⟩
    · refine ⟨_, rfl, zi, xi', _, _, rfl, rfl, SqT.of hzi, h0, rfl, _, rfl, zH (fun c => ⟨Same.refl _, fun _ z => ?_, fun z => by cases z⟩) (fun c => ?_)⟩
      · rw [z] at c; exact absurd c (by decide +kernel)
      have hmg : m.wd = "gap" := by simpa using c
      refine ⟨_, rfl, sL0, fun en hen => qFd ⟨vs2, (qD hen _) _ _ hv, hiv.ts (qK (qD hen _))⟩ qC ⟨_, rfl, ?_⟩⟩
      have w5 := qD hen (.lst [])
      cases hms : ms2 with
      | nil => exact j9 ⟨w5, fun _ _ => by decide +kernel, fun z => by cases z⟩
      | cons m0 ms0 =>
        refine jE ?_
        obtain ⟨v, m', h1, h2, _, h4⟩ := (hiv.ts (qK w5)).last (by rw [hms]; simp)
        obtain ⟨zl, xl, rfl, hzl, hl0, _⟩ := h4.opn
        refine ⟨_, rfl, _, rfl, y, _, _, _, rfl, rfl, SqL.of (w5 _ _ hv), xE h1, zl, xl, _, _, rfl, rfl, SqT.of hzl, hl0, rfl, _, rfl, w5, fun c _ => ?_, fun _ => hmg⟩
        have : qr "" ms2 = m'.wd := by unfold qr; rw [h2]
        rw [← hms, this]
        simpa using c
    rintro b H5 ⟨w5, hb1, hb2⟩
    have e5 := e4.trans w5
    have hv := w5 _ _ hv
    have hiv := hiv.ts (qK w5)
    have hI := hI.ts (qK w5)
    cases b with
    | false =>
      have hmg := hb2 rfl
      refine jE ⟨_, _, _, ms2, vs2, rfl, hv, hiv, by omega, hg2, hc2, fun z => ?_, w5 _ _ hd4, e5⟩
      have := hlm z
      rw [hmg] at this
      exact absurd this (by decide +kernel)
    | true =>
      refine j9 ⟨_, rfl, .inl ⟨rfl, _, SqL.of hv⟩, _, rfl, y, _, _, rfl, rfl, hv, qd (by omega), ?_⟩
      refine ⟨_, _, _, ms2 ++ [m], _, rfl, qC, (hiv.app (.one hI)).ts (j2 hv), by simp; omega, ?_, hc2.snoc ?_, by rw [kh]; exact hmm, by rw [qW nzd]; exact w5 _ _ hd4, jY e5 hy⟩
      · intro x hx
        rcases List.mem_append.mp hx with hx | hx
        · exact hg2 x hx
        · have : x = m := by simpa using hx
          rw [this]; exact hGm
      · unfold wS
        by_cases c1 : qr "" ms2 = "mix"
        · rw [if_pos c1, hlm c1]; decide +kernel
        rw [if_neg c1, if_neg hmm]
        by_cases c2 : m.wd = "gap"
        · have := hb1 rfl c2
          simp [this]
        · have c3 := z6 m
          simp [c2, c3]
  · rintro σ H' ⟨o1, o2, o3, ms, vs, rfl, hv, hiv, hml', hg, hc, hnm, hzd, e⟩
    have hvl : vs.length ≤ 126 := by rw [hiv.len]; omega
    refine ⟨fun b H3 => Same H' H3 ∧ (b = true → ∃ l, ms.getLast? = some (.gap l)) ∧ (b = false → qr "" ms ≠ "gap"), ?_, ?_⟩
    · refine ⟨_, rfl, sL0, fun en hen => qC1 ⟨vs, (qD hen _) _ _ hv, hiv.ts (qK (qD hen _))⟩ qC ⟨_, rfl, ?_⟩⟩
      have w3 := qD hen (.lst [])
      cases hms : ms with
      | nil => exact jE ⟨w3, (fun z => by cases z), fun _ => by decide +kernel⟩
      | cons m0 ms0 =>
        refine j9 ?_
        obtain ⟨v, m', h1, h2, _, h4⟩ := (hiv.ts (qK w3)).last (by rw [hms]; simp)
        obtain ⟨zl, xl, rfl, hzl, hl0, _⟩ := h4.opn
        refine ⟨_, rfl, _, rfl, y, _, _, _, rfl, rfl, SqL.of (w3 _ _ hv), xE h1, zl, xl, _, _, rfl, rfl, SqT.of hzl, hl0, rfl, _, rfl, w3, fun c => ?_, fun c => ?_⟩
        · obtain ⟨l, rfl⟩ := qF6 (m := m') (by simpa using c)
          exact ⟨l, by rw [← hms]; exact h2⟩
        · have : qr "" ms = m'.wd := by unfold qr; rw [h2]
          rw [← hms, this]
          simpa using c
    rintro b H3 ⟨w3, hb1, hb2⟩
    have e3 := e.trans w3
    have hv := w3 _ _ hv
    have hiv := hiv.ts (qK w3)
    cases b with
    | false => exact jE ⟨_, rfl, kk y ms H3 e3 hy ⟨vs, hv, hiv⟩ (by omega) hg hc hnm (hb2 rfl)⟩
    | true =>
      obtain ⟨l, hgl⟩ := hb1 rfl
      have hne : ms ≠ [] := by intro z; rw [z] at hgl; cases hgl
      have hvne : vs ≠ [] := by intro z; have := hiv.len; rw [z] at this; exact hne (List.length_eq_zero_iff.mp this.symm)
      have hmay := hc.last hgl
      obtain ⟨lv, hlv⟩ : ∃ v, vs[vs.length - 1]? = some v := ⟨_, List.getElem?_eq_getElem (by have := List.length_pos_iff.mpr hvne; omega)⟩
      refine j9 ⟨_, rfl, .inl ⟨rfl, _, SqL.of hv⟩, y, vs, lv, rfl, rfl, hv, hlv, ?_⟩
      have hl1 : qr "" ms.dropLast ≠ "mix" := by
        intro z; rw [z] at hmay; exact absurd hmay (by show ¬ wS "mix" "gap" = true; decide +kernel)
      have hl2 : qr "" ms.dropLast ≠ "gap" := by
        intro z; rw [z] at hmay; exact absurd hmay (by show ¬ wS "gap" "gap" = true; decide +kernel)
      exact ⟨_, rfl, kk y ms.dropLast _ (jY e3 hy) hy ⟨vs.dropLast, qC, hiv.dl.ts (j2 hv)⟩ (by rw [List.length_dropLast]; omega) (fun m hm => hg m (List.dropLast_subset _ hm)) hc.dl hl1 hl2⟩
theorem qAp {H : Hp} {z : Addr} {t b : Int} (t1 : 1 ≤ t) (t2 : t ≤ 60000) (b1 : 1 ≤ b) (b2 : b ≤ 2000) (h : H z = some (.tup [.int (jO t b), .int (qm t b)])) : Rate H (.ref z) (jO t b) (qm t b) := by
  have hb : b ≠ 0 := by omega
  have q0 := jX (t := t) hb
  have c := j1 t b
  have aP := jo (t := t) hb
  have aQ := jf (t := t) hb
  have p0 : 0 < jO t b := by
    have h1 : 0 < t * qm t b := Int.mul_pos (by omega) q0
    rw [← c] at h1
    exact Int.pos_of_mul_pos_left h1 (by omega)
  exact ⟨⟨z, rfl, h⟩, p0, q0, vJ hb, by omega, by omega⟩
def vL (K : W.Frag) : Sp := fun vs H Q _ => ∃ (z : Addr) (ns : List Int), vs = [.ref z] ∧ SqL K H z (ns.map V.int) ∧ ns.length ≤ 63 ∧ ∀ (t : Addr) (x y : V) (p q r s : Int) (H' : Hp), Same H H' → H' t = some (.tup [x, y]) → Rate H' x p q → Rate H' y r s → Q (.ref t) H'
theorem vT (T : Tx K mg a) : FnOk P w K mg base CX0 2 a.a__law_rates a.f__law_rates ["_law_script"] (vL K) := by
  refine T.d__law_rates.F.ok sc__law_rates (fun vs H Q E h => ?_) (fun cdv A outer s H vs Q E hr h => ?_)
  · obtain ⟨z, ns, rfl, _⟩ := h
    rfl
  obtain ⟨z, ns, rfl, hS, hlen, kk⟩ := h
  refine ⟨_, (qF (qX (i := 1) sc__law_rates.nd rfl (Or.inl rfl) (qI T.d__law_cell_at (jU T) hr rfl (qA (pv 0) (qA qB qE))))
      (qF (qp (qJ j0 (qQ qj (pv 1) qB) qB (qM _)) (qF (qX (i := 2) sc__law_rates.nd rfl (Or.inl rfl) (qI T.d__law_digits (xu T) hr rfl (qA (qI T.d__law_cell_at (jU T) hr rfl (qA (pv 0) (qA qB qE))) (qA (jT (qA qB (qA qB (qA qB (qA qB qE))))) qE))))
      (qH (qO (qi (qA (qI T.d__law_lowest (jz T) hr rfl (qA (qQ jF qB (qP qh (pv 2) qB (fun _ _ => rfl))) (qA (qQ jF qB (qP qh (pv 2) qB (fun _ _ => rfl))) qE))) (qA (qI T.d__law_lowest (jz T) hr rfl (qA (qQ jF qB (qP qh (pv 2) qB (fun _ _ => rfl))) (qA (qQ jF qB (qP qh (pv 2) qB (fun _ _ => rfl))) qE))) qE)))))) qU)
      (qF (qX (i := 3) sc__law_rates.nd rfl (Or.inl rfl) (qI T.d__law_rate (zU T) hr rfl (qA (qP qh (qI T.d__law_drawn (xV T) hr rfl (qA (pv 1) (qA qB qE))) qB (fun _ _ => rfl)) qE)))
      (qH (qO (qi (qA (pv 3) (qA (qI T.d__law_rate (zU T) hr rfl (qA (qP qh (qI T.d__law_drawn (xV T) hr rfl (qA (qQ jF (qQ qk (pv 1) qB) (qI T.d__law_cell_at (jU T) hr rfl (qA (pv 0) (qA qB qE)))) (qA qB qE))) qB (fun _ _ => rfl)) qE)) qE)))))))), ?_⟩
  try dsimp only [xJ, jD]
  refine ⟨_, rfl, z, ns, 0, rfl, hS, hlen, by decide, fun c => ?_⟩
  refine ⟨_, rfl, _, _, rfl, rfl, nz, rfl, _, rfl, zH (fun _ => ?_) (fun _ => ?_)⟩
  · refine ⟨_, rfl, z, ns, 1, rfl, hS, hlen, by decide, fun c1 => ⟨sL4, fun zs hzs => ?_⟩⟩
    have u0 := qD hzs (.lst [.int 60000, .int 2000, .int 60000, .int 2000])
    refine ⟨c1, zs, [60000, 2000, 60000, 2000], rfl, SqL.of qC, by decide, by decide, fun zd ds hzd hdl hdb => ?_⟩
    obtain ⟨d0, d1, d2, d3, rfl⟩ : ∃ x0 x1 x2 x3 : Int, ds = [x0, x1, x2, x3] := by
      match ds, hdl with
      | [x0, x1, x2, x3], _ => exact ⟨x0, x1, x2, x3, rfl⟩
    have q0 := hdb 0 d0 60000 rfl rfl
    have q1 := hdb 1 d1 2000 rfl rfl
    have q2 := hdb 2 d2 60000 rfl rfl
    have q3 := hdb 3 d3 2000 rfl rfl
    have u1 := qD hzd (.lst ([d0, d1, d2, d3].map V.int))
    have hd : SqL K (upd (upd H zs (.lst [.int 60000, .int 2000, .int 60000, .int 2000])) zd (.lst ([d0, d1, d2, d3].map V.int))) zd [.int d0, .int d1, .int d2, .int d3] := SqL.of qC
    have u01 := u0.trans u1
    generalize upd (upd H zs (.lst [.int 60000, .int 2000, .int 60000, .int 2000])) zd (.lst ([d0, d1, d2, d3].map V.int)) = H1 at hd u01 ⊢
    have sm : ∀ {i : Int}, 0 ≤ i → i < 2000 → (1 + i).natAbs < 2 ^ 8000 := fun h1 h2 => wb (n := 20) (by omega)
    refine ⟨_, rfl, zd, _, _, _, rfl, rfl, hd, rfl, _, _, rfl, rfl, _, rfl, zd, _, _, _, rfl, rfl, hd, rfl, _, _, rfl, rfl, _, _, rfl, by omega, sm q1.1 q1.2, fun z1 h1 => ?_⟩
    have u2 := qD h1 (.tup [.int (jO (1 + d0) (1 + d1)), .int (qm (1 + d0) (1 + d1))])
    have hd2 := u2.seq hd
    refine ⟨_, rfl, zd, _, _, _, rfl, rfl, hd2, rfl, _, _, rfl, rfl, _, rfl, zd, _, _, _, rfl, rfl, hd2, rfl, _, _, rfl, rfl, _, _, rfl, by omega, sm q3.1 q3.2, fun z2 h2 => ?_⟩
    have u3 := qD h2 (.tup [.int (jO (1 + d2) (1 + d3)), .int (qm (1 + d2) (1 + d3))])
    refine ⟨two, fun t ht => ?_⟩
    have u4 := qD ht (.tup [.ref z1, .ref z2])
    exact kk t _ _ _ _ _ _ _ (((u01.trans u2).trans u3).trans u4) qC (qAp (by omega) (by omega) (by omega) (by omega) (u4 _ _ (u3 _ _ qC))) (qAp (by omega) (by omega) (by omega) (by omega) (u4 _ _ qC))
  · refine ⟨_, rfl, c, 3, rfl, by decide, by decide, fun zx xs hzx hxl hx => ?_⟩
    have w1 := qD hzx (.lst (xs.map V.int))
    obtain ⟨x0, x1, x2, rfl⟩ : ∃ x0 x1 x2 : Int, xs = [x0, x1, x2] := by
      match xs, hxl with
      | [x0, x1, x2], _ => exact ⟨x0, x1, x2, rfl⟩
    refine ⟨zx, _, _, .int x2, rfl, rfl, SqL.of qC, rfl, x2, rfl, fun vr r0 r1 H1 w2 hR hRF => ?_⟩
    have e1 := w1.trans w2
    refine ⟨_, rfl, _, rfl, _, _, rfl, rfl, cdB (by decide) (by decide), _, rfl, z, ns, 1, rfl, e1.seq hS, hlen, by decide, fun c1 => ?_⟩
    refine ⟨_, _, rfl, rfl, _, 4, rfl, by decide, by decide, fun zy ys hzy hyl hy => ?_⟩
    have w3 := qD hzy (.lst (ys.map V.int))
    obtain ⟨y0, y1, y2, y3, rfl⟩ : ∃ x0 x1 x2 x3 : Int, ys = [x0, x1, x2, x3] := by
      match ys, hyl with
      | [x0, x1, x2, x3], _ => exact ⟨x0, x1, x2, x3, rfl⟩
    refine ⟨zy, _, _, .int y3, rfl, rfl, SqL.of qC, rfl, y3, rfl, fun vo o0 o1 H2 w4 hO hOF => ⟨two, fun t ht => ?_⟩⟩
    have u4 := qD ht (.tup [vr, vo])
    exact kk t vr vo r0 r1 o0 o1 _ (((e1.trans w3).trans w4).trans u4) qC (hR.same ((w3.trans w4).trans u4)) (hO.same u4)
def zQ (K : W.Frag) : Sp := fun vs H Q _ => ∃ (l : Addr) (us : List V) (rs : List Rw) (x : V) (r0 r1 : Int), vs = [.ref l, x] ∧ H l = some (.lst us) ∧ RowsG K H rs us ∧ rs.length ≤ 300 ∧ Rate H x r0 r1 ∧ (∀ r ∈ rs, OkR r0 r1 r0 r1 r) ∧ OkL none "" rs ∧
  ∀ (z : Addr) (H' : Hp), Same H H' → H z = none → Tr H' z (jC rs) → Q (.ref z) H'
theorem zL (T : Tx K mg a) : FnOk P w K mg base CX0 9 a.a__law_other_way a.f__law_other_way ["_law_rows", "_law_rate_here"] (zQ K) := by
  refine T.d__law_other_way.F.ok sc__law_other_way (fun vs H Q E h => ?_) (fun cdv A outer s H vs Q E hr h => ?_)
  · obtain ⟨l, us, rs, x, r0, r1, rfl, _⟩ := h
    rfl
  obtain ⟨l, us, rs, x, r0, r1, rfl, hl, hrs, hlen, rx, hok, hL, kk⟩ := h
  refine ⟨_, (qF (qX (i := 2) sc__law_other_way.nd rfl (Or.inl rfl) qD1)
      (qF (qE3 (fun _ _ => False) .none sc__law_other_way.nd rfl T.c_NoList (fun _ => (qH (qX (i := 2) sc__law_other_way.nd rfl (Or.inl rfl) (qI T.d_read_back (zY T) hr rfl (qA (pv 0) (qA (pv 1) (qA (pv 1) qE))))))) (fun _ _ => (qH (qX (i := 2) sc__law_other_way.nd rfl (Or.inl rfl) qD1))))
      (qH (qO (pv 2))))), ?_⟩
  try dsimp only [xJ, jD]
  refine ⟨?_, fun ea B σ' H' h => h.elim⟩
  exact ⟨_, rfl, _, rfl, _, rfl, l, us, rs, x, x, r0, r1, r0, r1, rfl, hl, hrs, hlen, rx, rx, hok, hL, fun z H' e hz hT => ⟨_, rfl, kk z H' e hz hT⟩⟩
def zX : Int → List Im → List Int
  | _, [] => []
  | b, m :: ms => if m.wd = "mix" then zX b ms else (b + m.mo) :: zX (b + m.mo) ms
theorem qBi {m : Im} (h : m.wd = "mix") : m.mo = 0 := by obtain ⟨l, rfl⟩ := qDe h; rfl
theorem zD : ∀ (ms : List Im) (b : Int) (m : Im), zX b (ms ++ [m]) = zX b ms ++ (if m.wd = "mix" then [] else [b + (ms.map Im.mo).sum + m.mo])
  | [], b, m => by
    rw [List.nil_append, zX, zX]
    split <;> simp [zX]
  | x :: ms, b, m => by
    rw [List.cons_append, zX, zX, List.map_cons, List.sum_cons]
    by_cases h : x.wd = "mix"
    · rw [if_pos h, if_pos h, zD ms, qBi h, Int.zero_add]
    · rw [if_neg h, if_neg h, zD ms, List.cons_append, Int.add_assoc b]
theorem kC : ∀ (ms : List Im) (b : Int), (b :: zX b ms).getLast? = some (b + (ms.map Im.mo).sum)
  | [], b => by simp [zX]
  | x :: ms, b => by
    rw [zX, List.map_cons, List.sum_cons]
    by_cases h : x.wd = "mix"
    · rw [if_pos h, kC ms, qBi h, Int.zero_add]
    · rw [if_neg h, List.getLast?_cons_cons, kC ms, Int.add_assoc]
theorem vX : ∀ (ms : List Im) (b : Int), (zX b ms).length ≤ ms.length
  | [], _ => Nat.le_refl _
  | x :: ms, b => by
    rw [zX]
    split
    · have := vX ms b; rw [List.length_cons]; omega
    · have := vX ms (b + x.mo); rw [List.length_cons, List.length_cons]; omega
def kL : Sp := fun vs H Q _ => ∃ (z : Addr) (ms : List Im), vs = [.ref z] ∧ Tr H z ms ∧ ms.length ≤ 300 ∧ ∀ (y : Addr) (H' : Hp), Same H H' → H y = none → H' y = some (.lst ((0 :: zX 0 ms).map V.int)) → Q (.ref y) H'
theorem kT (T : Tx K mg a) : FnOk P w K mg base CX0 1 a.a__law_borders a.f__law_borders ["_law_track_here"] kL := by
  refine T.d__law_borders.F.ok sc__law_borders (fun vs H Q E h => ?_) (fun cdv A outer s H vs Q E hr h => ?_)
  · obtain ⟨z, ms, rfl, _⟩ := h
    rfl
  obtain ⟨z, ms, rfl, ⟨vs, hz, his⟩, hl, kk⟩ := h
  refine ⟨_, (qF (qX (i := 1) sc__law_borders.nd rfl (Or.inl rfl) (jT (qA qB qE)))
      (qF (zG PassesOwn.never rfl (xx (pv 0)) (qo (i := 2) sc__law_borders.nd rfl (Or.inl rfl)) (qH (qp (qJ xb (qP qN (pv 2) qB (fun _ _ => rfl)) qY (qM _)) (qH (je (zu F.plainAttrs_list F.slot_list_append F.type_list_append jL (pv 1) (qA (qQ jF (qP qh (pv 1) (xX jp qB) (fun _ _ => rfl)) (qP qN (pv 2) (xX jp qB) (fun _ _ => rfl))) qE)))) qU)))
      (qH (qO (pv 1))))), ?_⟩
  try dsimp only [xJ, jD]
  refine ⟨sL1, fun y hy => ?_⟩
  have wy : ∀ (xs : List V), Same H (upd H y (.lst xs)) := fun xs => qD hy _
  refine ⟨_, rfl, z, rfl, ⟨_, SqL.of (wy _ _ _ hz)⟩, vD (K := K) (a := z) (xs := vs) (fun i σ H' => ∃ (o : Option V), σ = [some (.ref z), some (.ref y), o] ∧ H' = upd H y (.lst ((0 :: zX 0 (ms.take i)).map V.int)))
    ⟨none, rfl, rfl⟩ ?_ ?_ ?_⟩
  · rintro i σ H' hi ⟨o, _, rfl⟩
    exact SqL.of (wy _ _ _ hz)
  · rintro i x σ H' hx ⟨o, rfl, rfl⟩
    obtain ⟨m, hm, hI⟩ := his.get hx
    have hI := hI.ts (qK (wy ((0 :: zX 0 (ms.take i)).map V.int)))
    obtain ⟨zi, xi, rfl, hzi, h0, h1⟩ := hI.opn
    have et : ms.take (i + 1) = ms.take i ++ [m] := by rw [List.take_add_one, hm]; rfl
    have hbl := vX (ms.take i) 0
    rw [List.length_take] at hbl
    refine ⟨_, rfl, zi, xi, _, _, rfl, rfl, SqT.of hzi, h0, rfl, _, rfl, zH (fun c => ?_) (fun c => ?_)⟩
    · have hne : m.wd ≠ "mix" := by simpa using c
      have hat : atI ((0 :: zX 0 (ms.take i)).map V.int) (-1) = some (.int (0 + ((ms.take i).map Im.mo).sum)) := xE (by
        rw [← List.getLast?_eq_getElem?, List.getLast?_map, kC]; rfl)
      refine ⟨_, rfl, .inl ⟨rfl, _, SqL.of qC⟩, _, rfl, 1, rfl, y, _, _, _, rfl, rfl, SqL.of qC, hat, _, rfl, 1, rfl, zi, xi, _, _, rfl, rfl, SqT.of hzi, h1, _, _, rfl, rfl, y, _, _, rfl, rfl, qC, qd (by rw [List.length_map, List.length_cons]; omega), _, rfl, ?_⟩
      rw [wo, et, zD, if_neg hne, qG7 hne, ← List.cons_append, List.map_append]
      rfl
    · have hmx : m.wd = "mix" := by simpa using c
      refine ⟨_, rfl, ?_⟩
      rw [et, zD, if_pos hmx, List.append_nil]
  · rintro σ H' ⟨o, rfl, rfl⟩
    have em : ms.take vs.length = ms := by rw [his.len, List.take_length]
    rw [em]
    exact ⟨_, rfl, kk y _ (wy _) hy qC⟩
def qDa (P Q : Int) (r : Int × Option Im) : Rw := ⟨(wpP P Q r.1).fdiv (wpQ P Q r.1), (wpP P Q r.1).fmod (wpQ P Q r.1), wpQ P Q r.1, r.1, r.2⟩
theorem RowsV.g {H : Hp} {P Q : Int} : ∀ {rs : List (Int × Option Im)} {vs : List V}, RowsV K H P Q rs vs → RowsG K H (rs.map (qDa P Q)) vs
  | [], [], _ => trivial
  | _ :: _, _ :: _, h => ⟨h.1, RowsV.g h.2⟩
  | [], _ :: _, h => h.elim
  | _ :: _, [], h => h.elim
def rwG (r : Rw) : Rw := ⟨r.w, r.p, r.q, r.w, r.m⟩
theorem RowsG.g {H : Hp} : ∀ {rs : List Rw} {vs : List V}, RowsG K H rs vs → RowsG K H (rs.map rwG) vs
  | [], [], _ => trivial
  | _ :: _, _ :: _, h => ⟨h.1, RowsG.g h.2⟩
  | [], _ :: _, h => h.elim
  | _ :: _, [], h => h.elim
theorem qGv {m : Im} (h : GI m) : GW (some m) := by
  cases m with
  | clip n p q r s l => obtain ⟨h1, h2, h3, h4, _⟩ := h; exact ⟨h1, by omega, h3.1, h3.2.1, h4.1, h4.2.1⟩
  | nest n b l => obtain ⟨h1, h2, h3, _⟩ := h; exact ⟨h1, by omega, h3⟩
  | gap l => trivial
  | mix l => exact h
theorem qFh {m : Im} (h : GI m) (hm : m.wd ≠ "mix") : 1 ≤ m.mo := by
  cases m with
  | clip n p q r s l => obtain ⟨_, _, _, _, h1, _⟩ := h; exact h1
  | nest n b l => obtain ⟨_, _, _, h1, _⟩ := h; exact h1
  | gap l => exact h.1
  | mix l => exact absurd rfl hm
theorem qDm {ms : List Im} {r : Int × Option Im} (h : r ∈ xH ms) : (∃ i, r.1 = ((ms.take i).map Im.mo).sum) ∧ (r.2 = none ∨ ∃ m ∈ ms, r.2 = some m) := by
  obtain ⟨i, hi, e⟩ := List.mem_iff_getElem.mp h
  have hr : (xH ms)[i]? = some r := by rw [List.getElem?_eq_getElem hi, e]
  rw [kx] at hi
  rcases Nat.lt_or_ge i ms.length with h1 | h1
  · have := qDl (List.getElem?_eq_getElem h1)
    rw [this] at hr
    cases hr
    exact ⟨⟨i, rfl⟩, .inr ⟨_, List.getElem_mem h1, rfl⟩⟩
  · have e2 : i = ms.length := by omega
    rw [e2, qDi] at hr
    cases hr
    exact ⟨⟨ms.length, by rw [List.take_length]⟩, .inl rfl⟩
theorem qCz {P Q b : Int} (hQ : 0 < Q) (bb : b.natAbs < 2 ^ 200) (bP : P.natAbs < 2 ^ 200) (bQ : Q.natAbs < 2 ^ 200) : ((wpP P Q b).fdiv (wpQ P Q b)).natAbs < 2 ^ 500 ∧ (wpQ P Q b).natAbs < 2 ^ 500 := by
  have l1 : (jO b 1).natAbs < 2 ^ 200 := Nat.lt_of_le_of_lt (jo (by decide)) bb
  have l2 : (qm b 1).natAbs < 2 ^ 200 := Nat.lt_of_le_of_lt (jf (by decide)) (by decide)
  have bX : (wpP P Q b).natAbs < 2 ^ 400 := Nat.lt_of_le_of_lt (jo (qBf b hQ)) (by have := jd l1 bP; exact this)
  have bY : (wpQ P Q b).natAbs < 2 ^ 400 := Nat.lt_of_le_of_lt (jf (qBf b hQ)) (by have := jd l2 bQ; exact this)
  have q0 := wT (P := P) (b := b) hQ
  refine ⟨Nat.lt_of_le_of_lt ?_ (xo (m := 500) bX), xo bY⟩
  rw [Int.fdiv_eq_ediv_of_nonneg _ (by omega)]
  exact Int.natAbs_ediv_le_natAbs _ _
theorem qEl {H : Hp} {x y : V} {ms : List Im} {r0 r1 o0 o1 : Int} (hB : Bd ms) (hG : ∀ m ∈ ms, GI m) (rx : Rate H x r0 r1) (ry : Rate H y o0 o1) : ∀ r ∈ (xH ms).map (qDa (byP r0 r1 o0 o1) (byQ r0 r1 o0 o1)), OkR r0 r1 o0 o1 r := by
  intro r hr
  obtain ⟨⟨b, m⟩, hbm, rfl⟩ := List.mem_map.mp hr
  obtain ⟨⟨i, hb⟩, hm⟩ := qDm hbm
  dsimp only at hb hm
  have px := rx.p0
  have py := ry.p0
  have qx := rx.q0
  have qy := ry.q0
  have hne := qEr px qy
  have bP : (byP r0 r1 o0 o1).natAbs < 2 ^ 200 := Nat.lt_of_le_of_lt (jo hne) (xS py ry.bp qx rx.bq)
  have bQ : (byQ r0 r1 o0 o1).natAbs < 2 ^ 200 := Nat.lt_of_le_of_lt (jf hne) (xS qy ry.bq px rx.bp)
  have q0 : 0 < byQ r0 r1 o0 o1 := jX hne
  have ba : b.natAbs < 2 ^ 200 := by rw [hb]; exact hB.abs i
  obtain ⟨s1, s2⟩ := qCz (P := byP r0 r1 o0 o1) q0 ba bP bQ
  have f := qEw (P := byP r0 r1 o0 o1) (b := b) q0
  have told := qEz (b := b) (r1 := r1) (o0 := o0) px qy
  refine ⟨f.1, f.2, by show Int.gcd _ _ = 1; rw [Int.gcd_comm]; show Int.gcd (wpQ _ _ b) ((wpP _ _ b).fmod (wpQ _ _ b)) = 1; rw [zz]; exact qF2 q0, s1, s2, ?_, ?_⟩
  · show GW m
    rcases hm with rfl | ⟨m', hm', rfl⟩
    · trivial
    · exact qGv (hG m' hm')
  · show ((wpP (byP r0 r1 o0 o1) (byQ r0 r1 o0 o1) b).fdiv (wpQ (byP r0 r1 o0 o1) (byQ r0 r1 o0 o1) b) * wpQ (byP r0 r1 o0 o1) (byQ r0 r1 o0 o1) b + (wpP (byP r0 r1 o0 o1) (byQ r0 r1 o0 o1) b).fmod (wpQ (byP r0 r1 o0 o1) (byQ r0 r1 o0 o1) b)) * r0 * o1 = b * (wpQ (byP r0 r1 o0 o1) (byQ r0 r1 o0 o1) b * r1 * o0)
    rw [told]
    grind
theorem qBs (P Q : Int) : ∀ (ms : List Im) (o : Option Int) (c : Str) (b : Int), c ≠ "end" → Chn c ms → qr c ms ≠ "mix" → qr c ms ≠ "gap" → (match o with | none => b = 0 | some x => if c = "mix" then b = x else x < b) → (∀ m ∈ ms, GI m) → OkL o c ((pre b ms ++ [(b + (ms.map Im.mo).sum, none)]).map (qDa P Q))
  | [], o, c, b, hc, _, h1, h2, ho, _ => by
    have e1 : c ≠ "mix" := h1
    have e2 : c ≠ "gap" := h2
    refine ⟨hc, ?_, ?_, rfl⟩
    · show wS c "end" = true
      unfold wS
      rw [if_neg e1, if_neg (by decide +kernel)]
      simp [e2]
    · cases o with
      | none => show b + 0 = 0; rw [Int.add_zero]; exact ho
      | some x => show if c = "mix" then b + 0 = x else x < b + 0; rw [Int.add_zero]; exact ho
  | m :: ms, o, c, b, hc, hC, h1, h2, ho, hG => by
    rw [zJ] at h1 h2
    have hm := hG m (by simp)
    refine ⟨hc, hC.1, ho, ?_⟩
    have := qBs P Q ms (some b) m.wd (b + m.mo) (z6 m) hC.2 h1 h2 (by
      show if m.wd = "mix" then b + m.mo = b else b < b + m.mo
      split
      · rename_i h; rw [qBi h]; omega
      · rename_i h; have := qFh hm h; omega) (fun x hx => hG x (by simp [hx]))
    rw [List.map_cons, List.sum_cons, ← Int.add_assoc]
    exact this
theorem qCr {P Q : Int} {ms : List Im} (hC : Chn "" ms) (h1 : qr "" ms ≠ "mix") (h2 : qr "" ms ≠ "gap") (hG : ∀ m ∈ ms, GI m) : OkL none "" ((xH ms).map (qDa P Q)) := by
  have := qBs P Q ms none "" 0 (by decide +kernel) hC h1 h2 rfl hG
  rw [Int.zero_add] at this
  exact this
theorem wG (m : Im) (l : Int) (h : l = m.mo) : wv (some m) l = m := by
  subst h
  cases m <;> rfl
theorem wM (P Q : Int) : ∀ (ms : List Im) (b : Int), jC ((pre b ms ++ [(b + (ms.map Im.mo).sum, none)]).map (qDa P Q)) = ms
  | [], b => rfl
  | [m], b => by
    show wv (some m) (b + (m.mo + 0) - b) :: [] = [m]
    rw [wG m _ (by omega)]
  | m :: m2 :: ms, b => by
    have ih := wM P Q (m2 :: ms) (b + m.mo)
    rw [List.map_cons, List.sum_cons, ← Int.add_assoc]
    show wv (some m) (b + m.mo - b) :: jC ((pre (b + m.mo) (m2 :: ms) ++ [(b + m.mo + ((m2 :: ms).map Im.mo).sum, none)]).map (qDa P Q)) = _
    rw [ih, wG m _ (by omega)]
theorem qAs (P Q : Int) (ms : List Im) : jC ((xH ms).map (qDa P Q)) = ms := by
  have := wM P Q ms 0
  rw [Int.zero_add] at this
  exact this
theorem qFe {k1 k2 : Int} (h1 : 0 < k1) (h2 : 0 < k2) : ∀ (rs : List Rw) (o o' : Option Int) (c : Str), OkL o c rs → (∀ r ∈ rs, r.w * k1 = r.b * k2) → (match o, o' with | none, none => True | some x, some y => y * k1 = x * k2 | _, _ => False) → OkL o' c (rs.map rwG)
  | [], _, _, _, h, _, _ => h
  | r :: rs, o, o', c, h, hk, ho => by
    have hr := hk r (by simp)
    refine ⟨h.1, h.2.1, ?_, qFe h1 h2 rs (some r.b) (some r.w) (wdO r.m) h.2.2.2 (fun x hx => hk x (by simp [hx])) hr⟩
    have hb := h.2.2.1
    match o, o', ho, hb with
    | none, none, _, hb =>
      have hb : r.b = 0 := hb
      rw [hb, Int.zero_mul] at hr
      show r.w = 0
      rcases Int.mul_eq_zero.mp hr with z | z
      · exact z
      · omega
    | some x, some y, ho, hb =>
      have ho : y * k1 = x * k2 := ho
      have hb : if c = "mix" then r.b = x else x < r.b := hb
      show if c = "mix" then r.w = y else y < r.w
      by_cases e : c = "mix"
      · rw [if_pos e] at hb ⊢
        rw [hb, ← ho] at hr
        exact Int.eq_of_mul_eq_mul_right (by omega) hr
      · rw [if_neg e] at hb ⊢
        have : y * k1 < r.w * k1 := by rw [ho, hr]; exact Int.mul_lt_mul_of_pos_right hb h2
        exact Int.lt_of_mul_lt_mul_right this (by omega)
def x5 (r : Rw) : Bool := !decide (wdO r.m = "mix")
theorem wg (m : Option Im) (l : Int) (h : m ≠ none) : (wv m l).wd = wdO m := by
  match m, h with
  | some (.clip ..), _ => rfl
  | some (.nest ..), _ => rfl
  | some (.gap _), _ => rfl
  | some (.mix _), _ => rfl
theorem qEi (m : Option Im) (l : Int) (h : wdO m ≠ "mix") : (wv m l).mo = l := by
  match m, h with
  | none, _ => rfl
  | some (.clip ..), _ => rfl
  | some (.nest ..), _ => rfl
  | some (.gap _), _ => rfl
  | some (.mix _), h => exact absurd rfl h
theorem qAb : ∀ (rs : List Rw) (o : Option Int) (c : Str) (r : Rw), OkL o c (r :: rs) → ((r :: rs).filter x5).map Rw.b = r.b :: zX r.b (jC (r :: rs))
  | [], o, c, r, h => by
    have he : wdO r.m = "end" := h.2.2.2
    have hn : x5 r = true := by unfold x5; rw [he]; decide +kernel
    rw [List.filter_cons_of_pos hn]
    rfl
  | r2 :: rs, o, c, r, h => by
    have ih := qAb rs (some r.b) (wdO r.m) r2 h.2.2.2
    have hne : r.m ≠ none := by
      intro z
      have := h.2.2.2.1
      rw [z] at this
      exact this rfl
    have hb2 : if wdO r.m = "mix" then r2.b = r.b else r.b < r2.b := h.2.2.2.2.2.1
    show _ = r.b :: zX r.b (wv r.m (r2.b - r.b) :: jC (r2 :: rs))
    rw [zX, wg _ _ hne]
    by_cases hm : wdO r.m = "mix"
    · rw [if_pos hm] at hb2 ⊢
      have hn : ¬ x5 r = true := by unfold x5; rw [decide_eq_true hm]; decide
      rw [List.filter_cons_of_neg hn, ih, hb2]
    · rw [if_neg hm] at hb2 ⊢
      have hn : x5 r = true := by unfold x5; rw [decide_eq_false hm]; rfl
      rw [List.filter_cons_of_pos hn, List.map_cons, ih, qEi _ _ hm]
      have e : r.b + (r2.b - r.b) = r2.b := by omega
      rw [e]
theorem ww : ∀ (rs : List Rw) (o : Option Int) (c : Str), OkL o c rs → (jC (rs.map rwG)).map Im.wd = (jC rs).map Im.wd
  | [], _, _, _ => rfl
  | [_], _, _, _ => rfl
  | r :: r2 :: rs, o, c, h => by
    have ih := ww (r2 :: rs) (some r.b) (wdO r.m) h.2.2.2
    have hne : r.m ≠ none := by
      intro z
      have := h.2.2.2.1
      rw [z] at this
      exact this rfl
    show (wv r.m (r2.w - r.w)).wd :: (jC ((r2 :: rs).map rwG)).map Im.wd = (wv r.m (r2.b - r.b)).wd :: (jC (r2 :: rs)).map Im.wd
    rw [ih, wg _ _ hne, wg _ _ hne]
def rwD (r : Rw) : D := .tup [.leaf (.int r.w), .tup [.leaf (.int r.p), .leaf (.int r.q)], whD r.m]
theorem RowG.rep {H : Hp} {r : Rw} {v : V} (h : RowG K H r v) : Rep K H (rwD r) v := by
  obtain ⟨z, x, u, rfl, hz, hx, hw⟩ := h
  unfold rwD Rep
  refine ⟨z, _, rfl, SqT.of hz, ?_⟩
  unfold Reps Reps Reps Reps
  refine ⟨?_, jn hx rfl, hw.rep, trivial⟩
  unfold Rep; exact ⟨rfl, rfl⟩
theorem RowsG.rep {H : Hp} : ∀ {rs : List Rw} {vs : List V}, RowsG K H rs vs → Reps K H (rs.map rwD) vs
  | [], [], _ => by unfold List.map Reps; trivial
  | _ :: _, _ :: _, h => by unfold List.map Reps; exact ⟨h.1.rep, h.2.rep⟩
  | [], _ :: _, h => h.elim
  | _ :: _, [], h => h.elim
theorem qB5 (r : Rw) : eqD (rwD r) (rwD r) = true := by
  have h := qDo r.m
  simp [rwD, eqD, xF, eqV, h]
theorem ki : ∀ rs : List Rw, xF (rs.map rwD) (rs.map rwD) = true
  | [] => by simp [xF]
  | r :: rs => by unfold List.map xF; rw [qB5, ki rs]; rfl
theorem qCb : ∀ rs : List Rw, zq (rs.map rwD) ≤ 3
  | [] => by simp [zq]
  | r :: rs => by
    have h1 := qDr r.m
    have h2 := qCb rs
    have h3 : dep (rwD r) ≤ 3 := by
      simp [rwD, dep, zq]
      omega
    unfold List.map zq
    omega
theorem qF4 {H : Hp} {x y : Addr} {us : List V} {rs : List Rw} {Q : VK} (h1 : H x = some (.lst us)) (h2 : H y = some (.lst us)) (h : RowsG K H rs us) (q : Q (.bl false) H) : qC0 K true (.ref x) (.ref y) H Q := by
  refine ⟨.lst (rs.map rwD), .lst (rs.map rwD), ?_, ?_, rfl, by have := qCb rs; unfold dep; omega, ?_⟩
  · unfold Rep; exact ⟨x, us, rfl, SqL.of h1, h.rep⟩
  · unfold Rep; exact ⟨y, us, rfl, SqL.of h2, h.rep⟩
  · have e : eqD (.lst (rs.map rwD)) (.lst (rs.map rwD)) = true := by unfold eqD; exact ki rs
    rw [e]
    exact q
theorem qCf : ∀ ss : List Str, xF ((ss.map V.str).map D.leaf) ((ss.map V.str).map D.leaf) = true
  | [] => by simp [xF]
  | s :: ss => by
    have ih := qCf ss
    simp only [List.map_cons]
    unfold xF
    rw [ih]
    simp [eqD, eqV]
theorem qF7 {H : Hp} {x y : Addr} {ss : List Str} {Q : VK} (h1 : H x = some (.lst (ss.map V.str))) (h2 : H y = some (.lst (ss.map V.str))) (q : Q (.bl true) H) : qC0 K false (.ref x) (.ref y) H Q := by
  have hf : (ss.map V.str).all j3 = true := by rw [List.all_map, List.all_eq_true]; intro _ _; rfl
  refine ⟨.lst ((ss.map V.str).map D.leaf), .lst ((ss.map V.str).map D.leaf), ?_, ?_, rfl, by unfold dep; rw [kS]; decide, ?_⟩
  · unfold Rep; exact ⟨x, _, rfl, SqL.of h1, xg hf⟩
  · unfold Rep; exact ⟨y, _, rfl, SqL.of h2, xg hf⟩
  · have e : eqD (.lst ((ss.map V.str).map D.leaf)) (.lst ((ss.map V.str).map D.leaf)) = true := by unfold eqD; exact qCf ss
    rw [e]
    exact q
theorem kf {K : W.Frag} {z : Addr} {vs : List V} {ms : List Im} {H : Hp} {js : List Nat} {σ : L2.St} {Q : VK} {te : TE} (hz : H z = some (.lst vs)) (his : IsIs H ms vs) (hl : ms.length ≤ 300)
    (ht : ∀ (x : V) (m : Im) (H' : Hp) (R : VK), IsI H' m x → R (.str m.wd) H' → te (some x :: xD js σ) H' R)
    (q : ∀ (D : Addr) (H' : Hp), Same H H' → H' D = some (.lst ((ms.map Im.wd).map V.str)) → Q (.ref D) H') : vN js te σ Q (Itl K z) H := by
  refine qB3 (K := K) (a := z) (xs := vs) (fun i acc H' => H' = H ∧ acc = ((ms.take i).map Im.wd).map V.str) ⟨rfl, rfl⟩ ?_ ?_ ?_
  · rintro i acc H' hi ⟨rfl, rfl⟩
    exact ⟨SqL.of hz, qd (by simp only [List.length_map, List.length_take]; omega)⟩
  · rintro i x acc H' hi hx ⟨rfl, rfl⟩
    obtain ⟨m, hm, hI⟩ := his.get hx
    refine ht x m H' _ hI (Nxt.mk hi ⟨rfl, ?_⟩)
    rw [List.take_add_one, hm, List.map_append, List.map_append]
    rfl
  · rintro acc H' ⟨rfl, rfl⟩ D hD
    have em : ms.take vs.length = ms := by rw [his.len, List.take_length]
    rw [em]
    exact q D _ (qD hD _) qC
theorem qF3 (T : Tx K mg a) : FnOk P w K mg base CX0 12 a.a_law a.f_law ["_law_script"] (qC3 K) := by
  refine T.d_law.F.ok sc_law (fun vs H Q E h => ?_) (fun cdv A outer s H vs Q E hr h => ?_)
  · obtain ⟨a, ns, rfl, _⟩ := h
    rfl
  obtain ⟨z, ns, rfl, hS, hlen, kk⟩ := h
  have hu := hr.units
  refine ⟨_, (qF (qD2 (qI T.d__law_rates (vT T) hr rfl (qA (pv 0) qE)) (qAg rfl (jA (qo (i := 1) sc_law.nd rfl (Or.inl rfl)) (jA (qo (i := 2) sc_law.nd rfl (Or.inl rfl)) kM))))
      (qF (qX (i := 3) sc_law.nd rfl (Or.inl rfl) (qI T.d__law_track (vE T) hr rfl (qA (zC wp (pv 0) (xz qB) (xz qB)) qE)))
      (qF (wV (qp (qJ j0 (qQ qj (qI T.d__law_cell_at (jU T) hr rfl (qA (pv 0) (qA qB qE))) qB) qB (qM _)) (qH (qX (i := 3) sc_law.nd rfl (Or.inl rfl) (qI T.d__law_by_digits (zM T) hr rfl (qA (qI T.d__law_cell_at (jU T) hr rfl (qA (pv 0) (qA qB qE))) qE)))) qU))
      (qF (qX (i := 4) sc_law.nd rfl (Or.inl rfl) (qI T.d_written (kq T) hr rfl (qA (pv 3) (qA (pv 1) (qA (pv 2) qE)))))
      (qF (qX (i := 5) sc_law.nd rfl (Or.inl rfl) (qB0 vp rfl T.b_list rfl (qA (pv 4) qE)))
      (qF (zG PassesOwn.never rfl (x9 rfl T.b_range (qA qB qE)) (qo (i := 6) sc_law.nd rfl (Or.inl rfl)) (qF (qX (i := 7) sc_law.nd rfl (Or.inl rfl) (qI T.d_read_back (zY T) hr rfl (qA (pv 5) (qA (pv 1) (qA (pv 2) qE)))))
      (qF (qp (PW.pt (j4 (jS (jK (qZ jB rfl T.b_isinstance rfl (qA (pv 7) (qA (zg rfl T.b_list rfl) qE))))) (j4 (qJ (kR hu) (pv 7) (pv 3) (qM _)) (jm (qJ (kR hu) (pv 5) (pv 4) (qM _)))))) (qH (qO xW)) qU)
      (qH (je (zu F.plainAttrs_list F.slot_list_append F.type_list_append jL (pv 7) (qA (qi (qA qY (qA qB qE))) qE)))))))
      (qF (qp (jK (qI T.d_holds_all (vn T) hr rfl (qA (pv 3) (qA (pv 1) (qA (pv 2) qE))))) (qF (qX (i := 7) sc_law.nd rfl (Or.inl rfl) (qI T.d__law_other_way (zL T) hr rfl (qA (pv 4) (qA (pv 1) qE))))
      (qF (qDd (i := 8) [] [] sc_law.nd rfl rfl rfl (xx (pv 4)) (fun _ _ _ _ => (qJ xb (qP (kI (K := K) rfl) (qP (kI (K := K) rfl) (pv 0) qB (fun _ _ => rfl)) qB (fun _ _ => rfl)) qY (qM _))) (fun _ _ _ _ => (qP (kI (K := K) rfl) (pv 0) qB (fun _ _ => rfl))))
      (qF (qp (PW.pt (j4 (qE8 (qFx (pv 7))) (jm (qJ (kR hu) (qI T.d__law_borders (kT T) hr rfl (qA (pv 7) qE)) (pv 8) (qM _))))) (qH (qO xW)) qU)
      (qH (qO (jW (v9 hu) (wq [] [] rfl (xx (pv 7)) (fun _ _ _ _ => (qP (kI (K := K) rfl) (pv 0) qB (fun _ _ => rfl)))) (wq [] [] rfl (xx (pv 3)) (fun _ _ _ _ => (qP (kI (K := K) rfl) (pv 0) qB (fun _ _ => rfl)))) (qM _))))))) qU)
      (qH (qO xW))))))))), ?_⟩
  try dsimp only [xJ, jD]
  refine ⟨_, rfl, z, ns, rfl, hS, hlen, fun t vr vo r0 r1 o0 o1 H1 e1 ht hR hO => ?_⟩
  refine ⟨t, _, rfl, SqT.of ht, rfl, _, _, rfl, _, _, rfl, rfl, ?_⟩
  refine ⟨_, rfl, _, rfl, _, rfl, z, _, rfl, e1.seq hS, fun sc hsc => ?_⟩
  obtain ⟨ns', hms, hml⟩ := qC7 ns (some 2) (some 12)
  rw [hms]
  have w1 := qD hsc (.lst (ns'.map V.int))
  refine ⟨sc, ns', rfl, SqL.of qC, by omega, fun y ms H3 w2 hy0 hT hml2 hG hC hnm hng => ?_⟩
  have e3 := e1.trans (w1.trans w2)
  have hR := hR.same (w1.trans w2)
  have hO := hO.same (w1.trans w2)
  clear hms w1 w2 hsc e1 ht
  refine ⟨fun σ H' => ∃ (y : Addr) (ms : List Im), σ = [some (.ref z), some vr, some vo, some (.ref y), none, none, none, none, none] ∧ Same H H' ∧ Tr H' y ms ∧ ms.length ≤ 126 ∧ (∀ m ∈ ms, GI m) ∧ Chn "" ms ∧ qr "" ms ≠ "mix" ∧ qr "" ms ≠ "gap" ∧ Rate H' vr r0 r1 ∧ Rate H' vo o0 o1, ?_, ?_⟩
  · refine ⟨_, rfl, z, ns, 0, rfl, e3.seq hS, hlen, by decide, fun c => ⟨_, _, rfl, rfl, nz, rfl, _, rfl, zH (fun _ => ?_) (fun _ => ⟨y, ms, rfl, e3, hT, hml2, hG, hC, hnm, hng, hR, hO⟩)⟩⟩
    exact ⟨_, rfl, z, ns, 2, rfl, e3.seq hS, hlen, by decide, fun c2 => ⟨c2, rfl, fun y' ms' H5 w5 hy5 hT5 hml5 hG5 hC5 hnm5 hng5 => ⟨y', ms', rfl, e3.trans w5, hT5, hml5, hG5, hC5, hnm5, hng5, hR.same w5, hO.same w5⟩⟩⟩
  clear hT hml2 hG hC hnm hng hR hO e3 hy0
  rintro σ H3 ⟨y, ms, rfl, e3, hT, hml2, hG, hC, hnm, hng, hR, hO⟩
  have hB : Bd ms := ⟨by omega, fun m hm => (hG m hm).mo⟩
  refine ⟨_, rfl, _, rfl, _, rfl, y, ms, vr, vo, r0, r1, o0, o1, rfl, hT, hB, hR, hO, fun l us H5 w5 l0 hl rv => ?_⟩
  refine ⟨_, rfl, l, us, rfl, .inl (SqL.of hl), fun h hh => ?_⟩
  have w6 := qD hh (.lst us)
  have w56 := w5.trans w6
  have e6 := e3.trans w56
  have hT := hT.same w56
  have hR := hR.same w56
  have hO := hO.same w56
  have hl := w6 _ _ hl
  have rv := rv.ts (qK w6)
  have eh : (upd H5 h (.lst us)) h = some (.lst us) := qC
  clear w56 w5 l0 hh
  generalize upd H5 h (.lst us) = H6 at e6 hT hR hO hl rv eh ⊢
  have rg := rv.g
  have hok := qEl hB hG hR hO
  have hL := qCr (P := byP r0 r1 o0 o1) (Q := byQ r0 r1 o0 o1) hC hnm hng hG
  have htr := qAs (byP r0 r1 o0 o1) (byQ r0 r1 o0 o1) ms
  have hrl : ((xH ms).map (qDa (byP r0 r1 o0 o1) (byQ r0 r1 o0 o1))).length ≤ 300 := by rw [List.length_map, kx]; omega
  generalize hrs : (xH ms).map (qDa (byP r0 r1 o0 o1) (byQ r0 r1 o0 o1)) = rs at rg hok hL htr hrl
  refine ⟨2, rfl, by decide, by decide, zA (n := (2 : Int).toNat) (fun i σ H' => ∃ (o1' o2' : Option V), σ = [some (.ref z), some vr, some vo, some (.ref y), some (.ref l), some (.ref h), o1', o2', none] ∧ Same H6 H')
    ⟨none, none, rfl, Same.refl _⟩ ?_ ?_⟩
  · rintro i σ H' hi ⟨o1', o2', rfl, s7⟩
    refine ⟨_, rfl, _, rfl, _, rfl, h, us, rs, vr, vo, r0, r1, o0, o1, rfl, s7 _ _ eh, rg.ts (qK s7), hrl, hR.same s7, hO.same s7, hok, hL, fun zf H7 e7 zf0 tf => ?_⟩
    rw [htr] at tf
    have s67 := s7.trans e7
    obtain ⟨vs, hzf, hif⟩ := id tf
    refine ⟨_, rfl, _, _, _, true, rfl, .lst hzf, ⟨_, .inl ⟨rfl, by kernel_rfl⟩⟩, true, rfl, jE ?_⟩
    refine ⟨_, rfl, _, rfl, qHo tf (hT.same s67) ⟨_, rfl, jE ?_⟩⟩
    refine ⟨_, rfl, _, rfl, qF4 (s67 _ _ eh) (s67 _ _ hl) (rg.ts (qK s67)) ⟨_, rfl, jE ?_⟩⟩
    refine ⟨_, rfl, .inl ⟨rfl, _, SqL.of hzf⟩, two, fun g hg => ?_⟩
    have w8 := qD hg (.tup [.str "gap", .int 3])
    have hvl : vs.length ≤ 126 := by rw [hif.len]; exact hml2
    exact ⟨zf, _, _, rfl, rfl, w8 _ _ hzf, qd (by omega), _, _, rfl, jY (s67.trans w8) (s7.free zf0)⟩
  rintro σ H7 ⟨o1', o2', rfl, s7⟩
  refine ⟨_, rfl, _, rfl, _, rfl, y, ms, vr, vo, r0, r1, o0, o1, rfl, hT.same s7, hB, hR.same s7, hO.same s7, fun H8 e8 => ⟨_, rfl, ?_⟩⟩
  cases hall : (xH ms).all (zr (byP r0 r1 o0 o1) (byQ r0 r1 o0 o1)) with
  | false => exact jE (kk _)
  | true =>
    refine j9 ?_
    have s8 := s7.trans e8
    have hR := hR.same s8
    have hl := s8 _ _ hl
    have rg := rg.ts (qK s8)
    have hT := hT.same s8
    have px := hR.p0
    have qx := hR.q0
    have py := hO.p0
    have qy := hO.q0
    have hz : ∀ r ∈ rs, r.p = 0 ∧ r.q = 1 := by
      intro r hr
      rw [← hrs] at hr
      obtain ⟨⟨b, m⟩, hbm, rfl⟩ := List.mem_map.mp hr
      have := List.all_eq_true.mp hall (b, m) hbm
      unfold zr at this
      rw [eq2] at this
      have h2 : (wpP (byP r0 r1 o0 o1) (byQ r0 r1 o0 o1) b).fmod (wpQ (byP r0 r1 o0 o1) (byQ r0 r1 o0 o1) b) = 0 ∧ wpQ (byP r0 r1 o0 o1) (byQ r0 r1 o0 o1) b = 1 := by simpa using this
      exact h2
    have hw : ∀ r ∈ rs, r.w * (r0 * o1) = r.b * (r1 * o0) := by
      intro r hr
      have hpl := (hok r hr).pl
      obtain ⟨z1, z2⟩ := hz r hr
      rw [z1, z2] at hpl
      have e1 : (r.w * 1 + 0) * r0 * o1 = r.w * (r0 * o1) := by rw [Int.mul_one, Int.add_zero, Int.mul_assoc]
      have e2 : r.b * (1 * r1 * o0) = r.b * (r1 * o0) := by rw [Int.one_mul]
      rw [e1, e2] at hpl
      exact hpl
    have hok' : ∀ r ∈ rs.map rwG, OkR r0 r1 r0 r1 r := by
      intro r hr
      obtain ⟨r', hr', rfl⟩ := List.mem_map.mp hr
      have k := hok r' hr'
      obtain ⟨z1, z2⟩ := hz r' hr'
      refine ⟨k.p0, k.pq, k.g, k.bw, k.bq, k.gw, ?_⟩
      show (r'.w * r'.q + r'.p) * r0 * r1 = r'.w * (r'.q * r1 * r0)
      rw [z1, z2]
      grind
    have hL' : OkL none "" (rs.map rwG) := qFe (Int.mul_pos px qy) (Int.mul_pos qx py) rs none none "" hL hw trivial
    have hwd : (jC (rs.map rwG)).map Im.wd = ms.map Im.wd := by rw [ww rs none "" hL, htr]
    have htl : (jC (rs.map rwG)).length ≤ 300 := by rw [xm, List.length_map]; omega
    have hbor : ((rs.map rwG).filter x5).map Rw.b = 0 :: zX 0 (jC (rs.map rwG)) := by
      cases hc : rs.map rwG with
      | nil => rw [hc] at hL'; exact absurd hL' (by show ¬ (("" : Str) = "end"); decide +kernel)
      | cons r tl =>
        rw [hc] at hL'
        have h0 : r.b = 0 := hL'.2.2.1
        have := qAb tl none "" r hL'
        rw [h0] at this
        exact this
    have hwb : ∀ r ∈ rs.map rwG, r.w = r.b := by
      intro r hr
      obtain ⟨r', _, rfl⟩ := List.mem_map.mp hr
      rfl
    have rg' := rg.g
    have hrl' : (rs.map rwG).length ≤ 300 := by rw [List.length_map]; exact hrl
    clear hw hz hok hall
    generalize rs.map rwG = rs' at hok' hL' hwd htl hbor rg' hrl' hwb
    refine ⟨_, rfl, _, rfl, l, us, rs', vr, r0, r1, rfl, hl, rg', hrl', hR, hok', hL', fun zf H9 e9 zf0 tf => ?_⟩
    have hl9 := e9 _ _ hl
    have rg9 := rg'.ts (qK e9)
    refine ⟨_, rfl, l, rfl, ⟨_, SqL.of hl9⟩, qA4 (K := K) (a := l) (xs := us) (fun i acc H' => H' = H9 ∧ acc = (((rs'.take i).filter x5).map Rw.b).map V.int) ⟨rfl, rfl⟩ ?_ ?_ ?_⟩
    · rintro i acc H' hi ⟨rfl, rfl⟩
      refine ⟨SqL.of hl9, qd ?_⟩
      simp only [List.length_map]
      have := List.length_filter_le x5 (rs'.take i)
      rw [List.length_take] at this
      omega
    · rintro i v acc H' hi hv ⟨rfl, rfl⟩
      obtain ⟨r, hr', z4, x4, u4, rfl, q1, q2, q3⟩ := rg9.get hv
      obtain ⟨zw, xw, rfl, sqw, at0w⟩ := q3.w0
      have hrb : r.w = r.b := hwb r (List.mem_of_getElem? hr')
      have et : rs'.take (i + 1) = rs'.take i ++ [r] := by rw [List.take_add_one, hr']; rfl
      refine ⟨_, rfl, z4, _, _, _, rfl, rfl, SqT.of q1, rfl, zw, _, _, _, rfl, rfl, sqw, at0w, rfl, _, rfl, zH (fun c => ?_) (fun c => ?_)⟩
      · have hn : x5 r = true := by unfold x5; simpa using c
        refine ⟨_, rfl, z4, _, _, _, rfl, rfl, SqT.of q1, rfl, Nxt.mk hi ⟨rfl, ?_⟩⟩
        rw [et, List.filter_append, List.filter_cons_of_pos hn, List.map_append, List.map_append, hrb]
        rfl
      · have hn : ¬ x5 r = true := by unfold x5; simpa using c
        refine Nxt.mk hi ⟨rfl, ?_⟩
        rw [et, List.filter_append, List.filter_cons_of_neg hn]
        simp
    · rintro acc H' ⟨rfl, rfl⟩ D hD
      have em : rs'.take us.length = rs' := by rw [rg9.len, List.take_length]
      rw [em, hbor]
      have w10 := qD hD (.lst ((0 :: zX 0 (jC rs')).map V.int))
      have hDl : (upd H' D (.lst ((0 :: zX 0 (jC rs')).map V.int))) D = some (.lst ((0 :: zX 0 (jC rs')).map V.int)) := qC
      have tf := tf.same w10
      have hT := hT.same (e9.trans w10)
      generalize upd H' D (.lst ((0 :: zX 0 (jC rs')).map V.int)) = H10 at hDl tf hT ⊢
      refine ⟨_, rfl, _, rfl, jE ?_⟩
      refine ⟨_, rfl, zf, _, rfl, tf, htl, fun yb H11 e11 yb0 hyb => ⟨_, rfl, qE4 hyb (e11 _ _ hDl) ⟨_, rfl, jE ?_⟩⟩⟩
      have tf := tf.same e11
      have hT := hT.same e11
      obtain ⟨vs1, hz1, hi1⟩ := id tf
      obtain ⟨vs2, hz2, hi2⟩ := id hT
      refine ⟨_, rfl, zf, rfl, ⟨_, SqL.of hz1⟩, kf hz1 hi1 htl (fun x m H' R hI hR => ?_) (fun D1 H12 e12 hD1 => ?_)⟩
      · obtain ⟨zi, xi, rfl, hzi, h0, _⟩ := hI.opn
        exact ⟨_, rfl, zi, xi, _, _, rfl, rfl, SqT.of hzi, h0, hR⟩
      · rw [hwd] at hD1
        refine ⟨_, rfl, y, rfl, ⟨_, SqL.of (e12 _ _ hz2)⟩, kf (e12 _ _ hz2) (hi2.ts (qK e12)) (by omega) (fun x m H' R hI hR => ?_) (fun D2 H13 e13 hD2 => ?_)⟩
        · obtain ⟨zi, xi, rfl, hzi, h0, _⟩ := hI.opn
          exact ⟨_, rfl, zi, xi, _, _, rfl, rfl, SqT.of hzi, h0, hR⟩
        · exact qF7 (e13 _ _ hD1) hD2 (kk _)
end
theorem all_mk {l : W.OpenLaw} {w : World} {K : W.Frag} {h : Heap} {mg : Str → Option Value} {fa f0 f1 f2 f3 f4 f5 f6 f7 f8 f9 f10 f11 f12 f13 f14 f15 f16 f17 f18 f19 f20 f21 f22 f23 f24 f25 f26 f27 f28 f29 f30 f31 f32 f33 f34 f35 f36 f37 f38 f39 f40 C0 C1 C2 nNOUGHT nONE nEND nGAP : Addr} (X : K.In h) (G : h.Ns mainGlobals mg) (hfa : mg "law" = some (.ref fa))
    {od0 an0 od1 an1 od2 an2 od3 an3 od4 an4 od5 an5 od6 an6 od7 an7 od8 an8 od9 an9 od10 an10 od11 an11 od12 an12 od13 an13 od14 an14 od15 an15 od16 an16 od17 an17 od18 an18 od19 an19 od20 an20 od21 an21 od22 an22 od23 an23 od24 an24 od25 an25 od26 an26 od27 an27 od28 an28 od29 an29 od30 an30 od31 an31 od32 an32 od33 an33 od34 an34 od35 an35 od36 an36 od37 an37 od38 an38 od39 an39 od40 an40 odNOUGHT odONE odEND odGAP : Option Addr} {sl0 sl1 sl2 sl3 sl4 sl5 sl6 sl7 sl8 sl9 sl10 sl11 sl12 sl13 sl14 sl15 sl16 sl17 sl18 sl19 sl20 sl21 sl22 sl23 sl24 sl25 sl26 sl27 sl28 sl29 sl30 sl31 sl32 sl33 sl34 sl35 sl36 sl37 sl38 sl39 sl40 slNOUGHT slONE slEND slGAP : Array (Option Value)} {oc0 kV0 dc0 pm0 cd0 ct0 oc1 kV1 dc1 pm1 cd1 ct1 oc2 kV2 dc2 pm2 cd2 ct2 oc3 kV3 dc3 pm3 cd3 ct3 oc4 kV4 dc4 pm4 cd4 ct4 oc5 kV5 dc5 pm5 cd5 ct5 oc6 kV6 dc6 pm6 cd6 ct6 oc7 kV7 dc7 pm7 cd7 ct7 oc8 kV8 dc8 pm8 cd8 ct8 oc9 kV9 dc9 pm9 cd9 ct9 oc10 kV10 dc10 pm10 cd10 ct10 oc11 kV11 dc11 pm11 cd11 ct11 oc12 kV12 dc12 pm12 cd12 ct12 oc13 kV13 dc13 pm13 cd13 ct13 oc14 kV14 dc14 pm14 cd14 ct14 oc15 kV15 dc15 pm15 cd15 ct15 oc16 kV16 dc16 pm16 cd16 ct16 oc17 kV17 dc17 pm17 cd17 ct17 oc18 kV18 dc18 pm18 cd18 ct18 oc19 kV19 dc19 pm19 cd19 ct19 oc20 kV20 dc20 pm20 cd20 ct20 oc21 kV21 dc21 pm21 cd21 ct21 oc22 kV22 dc22 pm22 cd22 ct22 oc23 kV23 dc23 pm23 cd23 ct23 oc24 kV24 dc24 pm24 cd24 ct24 oc25 kV25 dc25 pm25 cd25 ct25 oc26 kV26 dc26 pm26 cd26 ct26 oc27 kV27 dc27 pm27 cd27 ct27 oc28 kV28 dc28 pm28 cd28 ct28 oc29 kV29 dc29 pm29 cd29 ct29 oc30 kV30 dc30 pm30 cd30 ct30 oc31 kV31 dc31 pm31 cd31 ct31 oc32 kV32 dc32 pm32 cd32 ct32 oc33 kV33 dc33 pm33 cd33 ct33 oc34 kV34 dc34 pm34 cd34 ct34 oc35 kV35 dc35 pm35 cd35 ct35 oc36 kV36 dc36 pm36 cd36 ct36 oc37 kV37 dc37 pm37 cd37 ct37 oc38 kV38 dc38 pm38 cd38 ct38 oc39 kV39 dc39 pm39 cd39 ct39 oc40 kV40 dc40 pm40 cd40 ct40 : Value} {tLETTERS tLONGEST_NAME tNOUGHT_0 tNOUGHT_1 tONE_0 tONE_1 tEND_0 tGAP_0 : Tok} {nnNOUGHT nnONE nnEND nnGAP : Nat}
    (a0 : W.nsIn K mainGlobals "is_whole" = some (some (.ref f0))) (l0 : K.lookup f0 = some ⟨oc0, od0, .func (W.fnOf "is_whole" "is_whole" (qS j8) (qR j8) (qG j8) .none kV0 dc0 pm0 an0 cd0 ct0), sl0⟩) (c0 : W.codeIn K cd0 "is_whole" = true) (k0 : W.keepIn K (.ref f0) = true)
    (a1 : W.nsIn K mainGlobals "common_divisor" = some (some (.ref f1))) (l1 : K.lookup f1 = some ⟨oc1, od1, .func (W.fnOf "common_divisor" "common_divisor" (qS qt) (qR qt) (qG qt) .none kV1 dc1 pm1 an1 cd1 ct1), sl1⟩) (c1 : W.codeIn K cd1 "common_divisor" = true) (k1 : W.keepIn K (.ref f1) = true)
    (a2 : W.nsIn K mainGlobals "is_fraction" = some (some (.ref f2))) (l2 : K.lookup f2 = some ⟨oc2, od2, .func (W.fnOf "is_fraction" "is_fraction" (qS ja) (qR ja) (qG ja) .none kV2 dc2 pm2 an2 cd2 ct2), sl2⟩) (c2 : W.codeIn K cd2 "is_fraction" = true) (k2 : W.keepIn K (.ref f2) = true)
    (a3 : W.nsIn K mainGlobals "fraction" = some (some (.ref f3))) (l3 : K.lookup f3 = some ⟨oc3, od3, .func (W.fnOf "fraction" "fraction" (qS j5) (qR j5) (qG j5) .none kV3 dc3 pm3 an3 cd3 ct3), sl3⟩) (c3 : W.codeIn K cd3 "fraction" = true) (k3 : W.keepIn K (.ref f3) = true)
    (a4 : W.nsIn K mainGlobals "sum_of" = some (some (.ref f4))) (l4 : K.lookup f4 = some ⟨oc4, od4, .func (W.fnOf "sum_of" "sum_of" (qS xh) (qR xh) (qG xh) .none kV4 dc4 pm4 an4 cd4 ct4), sl4⟩) (c4 : W.codeIn K cd4 "sum_of" = true) (k4 : W.keepIn K (.ref f4) = true)
    (a5 : W.nsIn K mainGlobals "times_of" = some (some (.ref f5))) (l5 : K.lookup f5 = some ⟨oc5, od5, .func (W.fnOf "times_of" "times_of" (qS xA) (qR xA) (qG xA) .none kV5 dc5 pm5 an5 cd5 ct5), sl5⟩) (c5 : W.codeIn K cd5 "times_of" = true) (k5 : W.keepIn K (.ref f5) = true)
    (a6 : W.nsIn K mainGlobals "quotient" = some (some (.ref f6))) (l6 : K.lookup f6 = some ⟨oc6, od6, .func (W.fnOf "quotient" "quotient" (qS j7) (qR j7) (qG j7) .none kV6 dc6 pm6 an6 cd6 ct6), sl6⟩) (c6 : W.codeIn K cd6 "quotient" = true) (k6 : W.keepIn K (.ref f6) = true)
    (a7 : W.nsIn K mainGlobals "is_before" = some (some (.ref f7))) (l7 : K.lookup f7 = some ⟨oc7, od7, .func (W.fnOf "is_before" "is_before" (qS jv) (qR jv) (qG jv) .none kV7 dc7 pm7 an7 cd7 ct7), sl7⟩) (c7 : W.codeIn K cd7 "is_before" = true) (k7 : W.keepIn K (.ref f7) = true)
    (a8 : W.nsIn K mainGlobals "floor_of" = some (some (.ref f8))) (l8 : K.lookup f8 = some ⟨oc8, od8, .func (W.fnOf "floor_of" "floor_of" (qS j6) (qR j6) (qG j6) .none kV8 dc8 pm8 an8 cd8 ct8), sl8⟩) (c8 : W.codeIn K cd8 "floor_of" = true) (k8 : W.keepIn K (.ref f8) = true)
    (a9 : W.nsIn K mainGlobals "rest_of" = some (some (.ref f9))) (l9 : K.lookup f9 = some ⟨oc9, od9, .func (W.fnOf "rest_of" "rest_of" (qS xL) (qR xL) (qG xL) .none kV9 dc9 pm9 an9 cd9 ct9), sl9⟩) (c9 : W.codeIn K cd9 "rest_of" = true) (k9 : W.keepIn K (.ref f9) = true)
    (a10 : W.nsIn K mainGlobals "is_name" = some (some (.ref f10))) (l10 : K.lookup f10 = some ⟨oc10, od10, .func (W.fnOf "is_name" "is_name" (qS xN) (qR xN) (qG xN) .none kV10 dc10 pm10 an10 cd10 ct10), sl10⟩) (c10 : W.codeIn K cd10 "is_name" = true) (k10 : W.keepIn K (.ref f10) = true)
    (a11 : W.nsIn K mainGlobals "has_clip_form" = some (some (.ref f11))) (l11 : K.lookup f11 = some ⟨oc11, od11, .func (W.fnOf "has_clip_form" "has_clip_form" (qS jG) (qR jG) (qG jG) .none kV11 dc11 pm11 an11 cd11 ct11), sl11⟩) (c11 : W.codeIn K cd11 "has_clip_form" = true) (k11 : W.keepIn K (.ref f11) = true)
    (a12 : W.nsIn K mainGlobals "is_length" = some (some (.ref f12))) (l12 : K.lookup f12 = some ⟨oc12, od12, .func (W.fnOf "is_length" "is_length" (qS jw) (qR jw) (qG jw) .none kV12 dc12 pm12 an12 cd12 ct12), sl12⟩) (c12 : W.codeIn K cd12 "is_length" = true) (k12 : W.keepIn K (.ref f12) = true)
    (a13 : W.nsIn K mainGlobals "has_nest_form" = some (some (.ref f13))) (l13 : K.lookup f13 = some ⟨oc13, od13, .func (W.fnOf "has_nest_form" "has_nest_form" (qS jH) (qR jH) (qG jH) .none kV13 dc13 pm13 an13 cd13 ct13), sl13⟩) (c13 : W.codeIn K cd13 "has_nest_form" = true) (k13 : W.keepIn K (.ref f13) = true)
    (a14 : W.nsIn K mainGlobals "has_gap_or_mix_form" = some (some (.ref f14))) (l14 : K.lookup f14 = some ⟨oc14, od14, .func (W.fnOf "has_gap_or_mix_form" "has_gap_or_mix_form" (qS qg) (qR qg) (qG qg) .none kV14 dc14 pm14 an14 cd14 ct14), sl14⟩) (c14 : W.codeIn K cd14 "has_gap_or_mix_form" = true) (k14 : W.keepIn K (.ref f14) = true)
    (a15 : W.nsIn K mainGlobals "moments_of" = some (some (.ref f15))) (l15 : K.lookup f15 = some ⟨oc15, od15, .func (W.fnOf "moments_of" "moments_of" (qS jl) (qR jl) (qG jl) .none kV15 dc15 pm15 an15 cd15 ct15), sl15⟩) (c15 : W.codeIn K cd15 "moments_of" = true) (k15 : W.keepIn K (.ref f15) = true)
    (a16 : W.nsIn K mainGlobals "is_rate" = some (some (.ref f16))) (l16 : K.lookup f16 = some ⟨oc16, od16, .func (W.fnOf "is_rate" "is_rate" (qS xO) (qR xO) (qG xO) .none kV16 dc16 pm16 an16 cd16 ct16), sl16⟩) (c16 : W.codeIn K cd16 "is_rate" = true) (k16 : W.keepIn K (.ref f16) = true)
    (a17 : W.nsIn K mainGlobals "check_rates" = some (some (.ref f17))) (l17 : K.lookup f17 = some ⟨oc17, od17, .func (W.fnOf "check_rates" "check_rates" (qS jc) (qR jc) (qG jc) .none kV17 dc17 pm17 an17 cd17 ct17), sl17⟩) (c17 : W.codeIn K cd17 "check_rates" = true) (k17 : W.keepIn K (.ref f17) = true)
    (a18 : W.nsIn K mainGlobals "without_length" = some (some (.ref f18))) (l18 : K.lookup f18 = some ⟨oc18, od18, .func (W.fnOf "without_length" "without_length" (qS qv) (qR qv) (qG qv) .none kV18 dc18 pm18 an18 cd18 ct18), sl18⟩) (c18 : W.codeIn K cd18 "without_length" = true) (k18 : W.keepIn K (.ref f18) = true)
    (a19 : W.nsIn K mainGlobals "row_at" = some (some (.ref f19))) (l19 : K.lookup f19 = some ⟨oc19, od19, .func (W.fnOf "row_at" "row_at" (qS xj) (qR xj) (qG xj) .none kV19 dc19 pm19 an19 cd19 ct19), sl19⟩) (c19 : W.codeIn K cd19 "row_at" = true) (k19 : W.keepIn K (.ref f19) = true)
    (a20 : W.nsIn K mainGlobals "written" = some (some (.ref f20))) (l20 : K.lookup f20 = some ⟨oc20, od20, .func (W.fnOf "written" "written" (qS xR) (qR xR) (qG xR) .none kV20 dc20 pm20 an20 cd20 ct20), sl20⟩) (c20 : W.codeIn K cd20 "written" = true) (k20 : W.keepIn K (.ref f20) = true)
    (a21 : W.nsIn K mainGlobals "holds_all" = some (some (.ref f21))) (l21 : K.lookup f21 = some ⟨oc21, od21, .func (W.fnOf "holds_all" "holds_all" (qS jq) (qR jq) (qG jq) .none kV21 dc21 pm21 an21 cd21 ct21), sl21⟩) (c21 : W.codeIn K cd21 "holds_all" = true) (k21 : W.keepIn K (.ref f21) = true)
    (a22 : W.nsIn K mainGlobals "is_what" = some (some (.ref f22))) (l22 : K.lookup f22 = some ⟨oc22, od22, .func (W.fnOf "is_what" "is_what" (qS xK) (qR xK) (qG xK) .none kV22 dc22 pm22 an22 cd22 ct22), sl22⟩) (c22 : W.codeIn K cd22 "is_what" = true) (k22 : W.keepIn K (.ref f22) = true)
    (a23 : W.nsIn K mainGlobals "has_row_form" = some (some (.ref f23))) (l23 : K.lookup f23 = some ⟨oc23, od23, .func (W.fnOf "has_row_form" "has_row_form" (qS jP) (qR jP) (qG jP) .none kV23 dc23 pm23 an23 cd23 ct23), sl23⟩) (c23 : W.codeIn K cd23 "has_row_form" = true) (k23 : W.keepIn K (.ref f23) = true)
    (a24 : W.nsIn K mainGlobals "may_follow" = some (some (.ref f24))) (l24 : K.lookup f24 = some ⟨oc24, od24, .func (W.fnOf "may_follow" "may_follow" (qS jh) (qR jh) (qG jh) .none kV24 dc24 pm24 an24 cd24 ct24), sl24⟩) (c24 : W.codeIn K cd24 "may_follow" = true) (k24 : W.keepIn K (.ref f24) = true)
    (a25 : W.nsIn K mainGlobals "lies_right" = some (some (.ref f25))) (l25 : K.lookup f25 = some ⟨oc25, od25, .func (W.fnOf "lies_right" "lies_right" (qS jg) (qR jg) (qG jg) .none kV25 dc25 pm25 an25 cd25 ct25), sl25⟩) (c25 : W.codeIn K cd25 "lies_right" = true) (k25 : W.keepIn K (.ref f25) = true)
    (a26 : W.nsIn K mainGlobals "borders_read" = some (some (.ref f26))) (l26 : K.lookup f26 = some ⟨oc26, od26, .func (W.fnOf "borders_read" "borders_read" (qS jN) (qR jN) (qG jN) .none kV26 dc26 pm26 an26 cd26 ct26), sl26⟩) (c26 : W.codeIn K cd26 "borders_read" = true) (k26 : W.keepIn K (.ref f26) = true)
    (a27 : W.nsIn K mainGlobals "read_back" = some (some (.ref f27))) (l27 : K.lookup f27 = some ⟨oc27, od27, .func (W.fnOf "read_back" "read_back" (qS jt) (qR jt) (qG jt) .none kV27 dc27 pm27 an27 cd27 ct27), sl27⟩) (c27 : W.codeIn K cd27 "read_back" = true) (k27 : W.keepIn K (.ref f27) = true)
    (a28 : W.nsIn K mainGlobals "_law_cell_at" = some (some (.ref f28))) (l28 : K.lookup f28 = some ⟨oc28, od28, .func (W.fnOf "_law_cell_at" "_law_cell_at" (qS jM) (qR jM) (qG jM) .none kV28 dc28 pm28 an28 cd28 ct28), sl28⟩) (c28 : W.codeIn K cd28 "_law_cell_at" = true) (k28 : W.keepIn K (.ref f28) = true)
    (a29 : W.nsIn K mainGlobals "_law_drawn" = some (some (.ref f29))) (l29 : K.lookup f29 = some ⟨oc29, od29, .func (W.fnOf "_law_drawn" "_law_drawn" (qS jk) (qR jk) (qG jk) .none kV29 dc29 pm29 an29 cd29 ct29), sl29⟩) (c29 : W.codeIn K cd29 "_law_drawn" = true) (k29 : W.keepIn K (.ref f29) = true)
    (a30 : W.nsIn K mainGlobals "_law_lowest" = some (some (.ref f30))) (l30 : K.lookup f30 = some ⟨oc30, od30, .func (W.fnOf "_law_lowest" "_law_lowest" (qS jZ) (qR jZ) (qG jZ) .none kV30 dc30 pm30 an30 cd30 ct30), sl30⟩) (c30 : W.codeIn K cd30 "_law_lowest" = true) (k30 : W.keepIn K (.ref f30) = true)
    (a31 : W.nsIn K mainGlobals "_law_part" = some (some (.ref f31))) (l31 : K.lookup f31 = some ⟨oc31, od31, .func (W.fnOf "_law_part" "_law_part" (qS ju) (qR ju) (qG ju) .none kV31 dc31 pm31 an31 cd31 ct31), sl31⟩) (c31 : W.codeIn K cd31 "_law_part" = true) (k31 : W.keepIn K (.ref f31) = true)
    (a32 : W.nsIn K mainGlobals "_law_track" = some (some (.ref f32))) (l32 : K.lookup f32 = some ⟨oc32, od32, .func (W.fnOf "_law_track" "_law_track" (qS jj) (qR jj) (qG jj) .none kV32 dc32 pm32 an32 cd32 ct32), sl32⟩) (c32 : W.codeIn K cd32 "_law_track" = true) (k32 : W.keepIn K (.ref f32) = true)
    (a33 : W.nsIn K mainGlobals "_law_rate" = some (some (.ref f33))) (l33 : K.lookup f33 = some ⟨oc33, od33, .func (W.fnOf "_law_rate" "_law_rate" (qS jr) (qR jr) (qG jr) .none kV33 dc33 pm33 an33 cd33 ct33), sl33⟩) (c33 : W.codeIn K cd33 "_law_rate" = true) (k33 : W.keepIn K (.ref f33) = true)
    (a34 : W.nsIn K mainGlobals "_law_digits" = some (some (.ref f34))) (l34 : K.lookup f34 = some ⟨oc34, od34, .func (W.fnOf "_law_digits" "_law_digits" (qS jb) (qR jb) (qG jb) .none kV34 dc34 pm34 an34 cd34 ct34), sl34⟩) (c34 : W.codeIn K cd34 "_law_digits" = true) (k34 : W.keepIn K (.ref f34) = true)
    (a35 : W.nsIn K mainGlobals "_law_item_of" = some (some (.ref f35))) (l35 : K.lookup f35 = some ⟨oc35, od35, .func (W.fnOf "_law_item_of" "_law_item_of" (qS jQ) (qR jQ) (qG jQ) .none kV35 dc35 pm35 an35 cd35 ct35), sl35⟩) (c35 : W.codeIn K cd35 "_law_item_of" = true) (k35 : W.keepIn K (.ref f35) = true)
    (a36 : W.nsIn K mainGlobals "_law_by_digits" = some (some (.ref f36))) (l36 : K.lookup f36 = some ⟨oc36, od36, .func (W.fnOf "_law_by_digits" "_law_by_digits" (qS q9) (qR q9) (qG q9) .none kV36 dc36 pm36 an36 cd36 ct36), sl36⟩) (c36 : W.codeIn K cd36 "_law_by_digits" = true) (k36 : W.keepIn K (.ref f36) = true)
    (a37 : W.nsIn K mainGlobals "_law_rates" = some (some (.ref f37))) (l37 : K.lookup f37 = some ⟨oc37, od37, .func (W.fnOf "_law_rates" "_law_rates" (qS ji) (qR ji) (qG ji) .none kV37 dc37 pm37 an37 cd37 ct37), sl37⟩) (c37 : W.codeIn K cd37 "_law_rates" = true) (k37 : W.keepIn K (.ref f37) = true)
    (a38 : W.nsIn K mainGlobals "_law_other_way" = some (some (.ref f38))) (l38 : K.lookup f38 = some ⟨oc38, od38, .func (W.fnOf "_law_other_way" "_law_other_way" (qS q8) (qR q8) (qG q8) .none kV38 dc38 pm38 an38 cd38 ct38), sl38⟩) (c38 : W.codeIn K cd38 "_law_other_way" = true) (k38 : W.keepIn K (.ref f38) = true)
    (a39 : W.nsIn K mainGlobals "_law_borders" = some (some (.ref f39))) (l39 : K.lookup f39 = some ⟨oc39, od39, .func (W.fnOf "_law_borders" "_law_borders" (qS jR) (qR jR) (qG jR) .none kV39 dc39 pm39 an39 cd39 ct39), sl39⟩) (c39 : W.codeIn K cd39 "_law_borders" = true) (k39 : W.keepIn K (.ref f39) = true)
    (a40 : W.nsIn K mainGlobals "law" = some (some (.ref f40))) (l40 : K.lookup f40 = some ⟨oc40, od40, .func (W.fnOf "law" "law" (qS kw) (qR kw) (qG kw) .none kV40 dc40 pm40 an40 cd40 ct40), sl40⟩) (c40 : W.codeIn K cd40 "law" = true) (k40 : W.keepIn K (.ref f40) = true)
    (xg0 : W.nsIn K mainGlobals "CutError" = some (some (.ref C0)))
    (xg1 : W.nsIn K mainGlobals "NoNumber" = some (some (.ref C1)))
    (xg2 : W.nsIn K mainGlobals "NoList" = some (some (.ref C2)))
    (x_NoNumber : L3.OwnX K C1)
    (xz0 : W.nsIn K mainGlobals "isinstance" = some none)
    (xz1 : W.nsIn K mainGlobals "int" = some none)
    (xz2 : W.nsIn K mainGlobals "bool" = some none)
    (xz3 : W.nsIn K mainGlobals "abs" = some none)
    (xz4 : W.nsIn K mainGlobals "tuple" = some none)
    (xz5 : W.nsIn K mainGlobals "len" = some none)
    (xz6 : W.nsIn K mainGlobals "all" = some none)
    (xz7 : W.nsIn K mainGlobals "str" = some none)
    (xz8 : W.nsIn K mainGlobals "enumerate" = some none)
    (xz9 : W.nsIn K mainGlobals "range" = some none)
    (xz10 : W.nsIn K mainGlobals "list" = some none)
    (xcLETTERS : W.nsIn K mainGlobals "LETTERS" = some (some (.str "abcdefghijklmnopqrstuvwxyz" tLETTERS)))
    (xcLONGEST_NAME : W.nsIn K mainGlobals "LONGEST_NAME" = some (some (.int 8 tLONGEST_NAME)))
    (xcNOUGHT : W.nsIn K mainGlobals "NOUGHT" = some (some (.ref nNOUGHT))) (xlNOUGHT : K.lookup nNOUGHT = some ⟨.type "tuple", odNOUGHT, .seq #[.int 0 tNOUGHT_0, .int 1 tNOUGHT_1] nnNOUGHT, slNOUGHT⟩)
    (xcONE : W.nsIn K mainGlobals "ONE" = some (some (.ref nONE))) (xlONE : K.lookup nONE = some ⟨.type "tuple", odONE, .seq #[.int 1 tONE_0, .int 1 tONE_1] nnONE, slONE⟩)
    (xcEND : W.nsIn K mainGlobals "END" = some (some (.ref nEND))) (xlEND : K.lookup nEND = some ⟨.type "tuple", odEND, .seq #[.str "end" tEND_0] nnEND, slEND⟩)
    (xcGAP : W.nsIn K mainGlobals "GAP" = some (some (.ref nGAP))) (xlGAP : K.lookup nGAP = some ⟨.type "tuple", odGAP, .seq #[.str "gap" tGAP_0] nnGAP, slGAP⟩)
    : ∃ fd : FuncData, (∀ (s : Shared) (v : Value), BindsTo s fd ⟨[v], []⟩ [("_law_script", v)]) ∧ ∀ base : Heap, K.In base → base.Ns mainGlobals mg → FnOk l.prog w K mg base CX0 12 fa fd ["_law_script"] (qC3 K) := by
  have e := hfa.symm.trans (W.mg_of X G a40)
  obtain rfl : f40 = fa := by cases e; rfl
  have F0 := qf (st := j8) l0 c0 k0
  have b0 := F0.binds (ps := ["x"]) fun _ _ _ _ _ _ us hl => match us, hl with | [_], _ => rfl
  have F1 := qf (st := qt) l1 c1 k1
  have b1 := F1.binds (ps := ["one", "other"]) fun _ _ _ _ _ _ us hl => match us, hl with | [_, _], _ => rfl
  have F2 := qf (st := ja) l2 c2 k2
  have b2 := F2.binds (ps := ["x"]) fun _ _ _ _ _ _ us hl => match us, hl with | [_], _ => rfl
  have F3 := qf (st := j5) l3 c3 k3
  have b3 := F3.binds (ps := ["top", "bottom"]) fun _ _ _ _ _ _ us hl => match us, hl with | [_, _], _ => rfl
  have F4 := qf (st := xh) l4 c4 k4
  have b4 := F4.binds (ps := ["one", "other"]) fun _ _ _ _ _ _ us hl => match us, hl with | [_, _], _ => rfl
  have F5 := qf (st := xA) l5 c5 k5
  have b5 := F5.binds (ps := ["one", "other"]) fun _ _ _ _ _ _ us hl => match us, hl with | [_, _], _ => rfl
  have F6 := qf (st := j7) l6 c6 k6
  have b6 := F6.binds (ps := ["one", "other"]) fun _ _ _ _ _ _ us hl => match us, hl with | [_, _], _ => rfl
  have F7 := qf (st := jv) l7 c7 k7
  have b7 := F7.binds (ps := ["one", "other"]) fun _ _ _ _ _ _ us hl => match us, hl with | [_, _], _ => rfl
  have F8 := qf (st := j6) l8 c8 k8
  have b8 := F8.binds (ps := ["one"]) fun _ _ _ _ _ _ us hl => match us, hl with | [_], _ => rfl
  have F9 := qf (st := xL) l9 c9 k9
  have b9 := F9.binds (ps := ["one"]) fun _ _ _ _ _ _ us hl => match us, hl with | [_], _ => rfl
  have F10 := qf (st := xN) l10 c10 k10
  have b10 := F10.binds (ps := ["thing"]) fun _ _ _ _ _ _ us hl => match us, hl with | [_], _ => rfl
  have F11 := qf (st := jG) l11 c11 k11
  have b11 := F11.binds (ps := ["item"]) fun _ _ _ _ _ _ us hl => match us, hl with | [_], _ => rfl
  have F12 := qf (st := jw) l12 c12 k12
  have b12 := F12.binds (ps := ["thing"]) fun _ _ _ _ _ _ us hl => match us, hl with | [_], _ => rfl
  have F13 := qf (st := jH) l13 c13 k13
  have b13 := F13.binds (ps := ["item"]) fun _ _ _ _ _ _ us hl => match us, hl with | [_], _ => rfl
  have F14 := qf (st := qg) l14 c14 k14
  have b14 := F14.binds (ps := ["item"]) fun _ _ _ _ _ _ us hl => match us, hl with | [_], _ => rfl
  have F15 := qf (st := jl) l15 c15 k15
  have b15 := F15.binds (ps := ["item"]) fun _ _ _ _ _ _ us hl => match us, hl with | [_], _ => rfl
  have F16 := qf (st := xO) l16 c16 k16
  have b16 := F16.binds (ps := ["thing"]) fun _ _ _ _ _ _ us hl => match us, hl with | [_], _ => rfl
  have F17 := qf (st := jc) l17 c17 k17
  have b17 := F17.binds (ps := ["rate", "other"]) fun _ _ _ _ _ _ us hl => match us, hl with | [_, _], _ => rfl
  have F18 := qf (st := qv) l18 c18 k18
  have b18 := F18.binds (ps := ["item"]) fun _ _ _ _ _ _ us hl => match us, hl with | [_], _ => rfl
  have F19 := qf (st := xj) l19 c19 k19
  have b19 := F19.binds (ps := ["border", "by", "what"]) fun _ _ _ _ _ _ us hl => match us, hl with | [_, _, _], _ => rfl
  have F20 := qf (st := xR) l20 c20 k20
  have b20 := F20.binds (ps := ["track", "rate", "other"]) fun _ _ _ _ _ _ us hl => match us, hl with | [_, _, _], _ => rfl
  have F21 := qf (st := jq) l21 c21 k21
  have b21 := F21.binds (ps := ["track", "rate", "other"]) fun _ _ _ _ _ _ us hl => match us, hl with | [_, _, _], _ => rfl
  have F22 := qf (st := xK) l22 c22 k22
  have b22 := F22.binds (ps := ["what"]) fun _ _ _ _ _ _ us hl => match us, hl with | [_], _ => rfl
  have F23 := qf (st := jP) l23 c23 k23
  have b23 := F23.binds (ps := ["row"]) fun _ _ _ _ _ _ us hl => match us, hl with | [_], _ => rfl
  have F24 := qf (st := jh) l24 c24 k24
  have b24 := F24.binds (ps := ["kind", "ahead"]) fun _ _ _ _ _ _ us hl => match us, hl with | [_, _], _ => rfl
  have F25 := qf (st := jg) l25 c25 k25
  have b25 := F25.binds (ps := ["border", "borders", "ahead"]) fun _ _ _ _ _ _ us hl => match us, hl with | [_, _, _], _ => rfl
  have F26 := qf (st := jN) l26 c26 k26
  have b26 := F26.binds (ps := ["rows", "rate", "other"]) fun _ _ _ _ _ _ us hl => match us, hl with | [_, _, _], _ => rfl
  have F27 := qf (st := jt) l27 c27 k27
  have b27 := F27.binds (ps := ["rows", "rate", "other"]) fun _ _ _ _ _ _ us hl => match us, hl with | [_, _, _], _ => rfl
  have F28 := qf (st := jM) l28 c28 k28
  have b28 := F28.binds (ps := ["_law_script", "_law_k"]) fun _ _ _ _ _ _ us hl => match us, hl with | [_, _], _ => rfl
  have F29 := qf (st := jk) l29 c29 k29
  have b29 := F29.binds (ps := ["_law_number", "_law_many"]) fun _ _ _ _ _ _ us hl => match us, hl with | [_, _], _ => rfl
  have F30 := qf (st := jZ) l30 c30 k30
  have b30 := F30.binds (ps := ["_law_top", "_law_bottom"]) fun _ _ _ _ _ _ us hl => match us, hl with | [_, _], _ => rfl
  have F31 := qf (st := ju) l31 c31 k31
  have b31 := F31.binds (ps := ["_law_x", "_law_cell"]) fun _ _ _ _ _ _ us hl => match us, hl with | [_, _], _ => rfl
  have F32 := qf (st := jj) l32 c32 k32
  have b32 := F32.binds (ps := ["_law_cells"]) fun _ _ _ _ _ _ us hl => match us, hl with | [_], _ => rfl
  have F33 := qf (st := jr) l33 c33 k33
  have b33 := F33.binds (ps := ["_law_x"]) fun _ _ _ _ _ _ us hl => match us, hl with | [_], _ => rfl
  have F34 := qf (st := jb) l34 c34 k34
  have b34 := F34.binds (ps := ["_law_number", "_law_sizes"]) fun _ _ _ _ _ _ us hl => match us, hl with | [_, _], _ => rfl
  have F35 := qf (st := jQ) l35 c35 k35
  have b35 := F35.binds (ps := ["_law_digits_here"]) fun _ _ _ _ _ _ us hl => match us, hl with | [_], _ => rfl
  have F36 := qf (st := q9) l36 c36 k36
  have b36 := F36.binds (ps := ["_law_number"]) fun _ _ _ _ _ _ us hl => match us, hl with | [_], _ => rfl
  have F37 := qf (st := ji) l37 c37 k37
  have b37 := F37.binds (ps := ["_law_script"]) fun _ _ _ _ _ _ us hl => match us, hl with | [_], _ => rfl
  have F38 := qf (st := q8) l38 c38 k38
  have b38 := F38.binds (ps := ["_law_rows", "_law_rate_here"]) fun _ _ _ _ _ _ us hl => match us, hl with | [_, _], _ => rfl
  have F39 := qf (st := jR) l39 c39 k39
  have b39 := F39.binds (ps := ["_law_track_here"]) fun _ _ _ _ _ _ us hl => match us, hl with | [_], _ => rfl
  have F40 := qf (st := kw) l40 c40 k40
  have b40 := F40.binds (ps := ["_law_script"]) fun _ _ _ _ _ _ us hl => match us, hl with | [_], _ => rfl
  have T : Tx K mg ⟨f0, _, f1, _, f2, _, f3, _, f4, _, f5, _, f6, _, f7, _, f8, _, f9, _, f10, _, f11, _, f12, _, f13, _, f14, _, f15, _, f16, _, f17, _, f18, _, f19, _, f20, _, f21, _, f22, _, f23, _, f24, _, f25, _, f26, _, f27, _, f28, _, f29, _, f30, _, f31, _, f32, _, f33, _, f34, _, f35, _, f36, _, f37, _, f38, _, f39, _, f40, _, C0, C1, C2, tLETTERS, tLONGEST_NAME, nNOUGHT, nONE, nEND, nGAP⟩ := ⟨⟨F0, b0, W.mg_of X G a0⟩, ⟨F1, b1, W.mg_of X G a1⟩, ⟨F2, b2, W.mg_of X G a2⟩, ⟨F3, b3, W.mg_of X G a3⟩, ⟨F4, b4, W.mg_of X G a4⟩, ⟨F5, b5, W.mg_of X G a5⟩, ⟨F6, b6, W.mg_of X G a6⟩, ⟨F7, b7, W.mg_of X G a7⟩, ⟨F8, b8, W.mg_of X G a8⟩, ⟨F9, b9, W.mg_of X G a9⟩, ⟨F10, b10, W.mg_of X G a10⟩, ⟨F11, b11, W.mg_of X G a11⟩, ⟨F12, b12, W.mg_of X G a12⟩, ⟨F13, b13, W.mg_of X G a13⟩, ⟨F14, b14, W.mg_of X G a14⟩, ⟨F15, b15, W.mg_of X G a15⟩, ⟨F16, b16, W.mg_of X G a16⟩, ⟨F17, b17, W.mg_of X G a17⟩, ⟨F18, b18, W.mg_of X G a18⟩, ⟨F19, b19, W.mg_of X G a19⟩, ⟨F20, b20, W.mg_of X G a20⟩, ⟨F21, b21, W.mg_of X G a21⟩, ⟨F22, b22, W.mg_of X G a22⟩, ⟨F23, b23, W.mg_of X G a23⟩, ⟨F24, b24, W.mg_of X G a24⟩, ⟨F25, b25, W.mg_of X G a25⟩, ⟨F26, b26, W.mg_of X G a26⟩, ⟨F27, b27, W.mg_of X G a27⟩, ⟨F28, b28, W.mg_of X G a28⟩, ⟨F29, b29, W.mg_of X G a29⟩, ⟨F30, b30, W.mg_of X G a30⟩, ⟨F31, b31, W.mg_of X G a31⟩, ⟨F32, b32, W.mg_of X G a32⟩, ⟨F33, b33, W.mg_of X G a33⟩, ⟨F34, b34, W.mg_of X G a34⟩, ⟨F35, b35, W.mg_of X G a35⟩, ⟨F36, b36, W.mg_of X G a36⟩, ⟨F37, b37, W.mg_of X G a37⟩, ⟨F38, b38, W.mg_of X G a38⟩, ⟨F39, b39, W.mg_of X G a39⟩, ⟨F40, b40, W.mg_of X G a40⟩, W.mg_of X G xg0, W.mg_of X G xg1, W.mg_of X G xg2, W.mg_none_of X G xz0, W.mg_none_of X G xz1, W.mg_none_of X G xz2, W.mg_none_of X G xz3, W.mg_none_of X G xz4, W.mg_none_of X G xz5, W.mg_none_of X G xz6, W.mg_none_of X G xz7, W.mg_none_of X G xz8, W.mg_none_of X G xz9, W.mg_none_of X G xz10, W.mg_of X G xcLETTERS, W.mg_of X G xcLONGEST_NAME, W.mg_of X G xcNOUGHT, fun H => .inr ⟨_, _, _, xlNOUGHT, rfl, rfl, by show 2 ≤ sizeLine; decide, .cons ⟨_, rfl⟩ (.cons ⟨_, rfl⟩ (.nil))⟩, W.mg_of X G xcONE, fun H => .inr ⟨_, _, _, xlONE, rfl, rfl, by show 2 ≤ sizeLine; decide, .cons ⟨_, rfl⟩ (.cons ⟨_, rfl⟩ (.nil))⟩, W.mg_of X G xcEND, fun H => .inr ⟨_, _, _, xlEND, rfl, rfl, by show 1 ≤ sizeLine; decide, .cons ⟨_, rfl⟩ (.nil)⟩, W.mg_of X G xcGAP, fun H => .inr ⟨_, _, _, xlGAP, rfl, rfl, by show 1 ≤ sizeLine; decide, .cons ⟨_, rfl⟩ (.nil)⟩, x_NoNumber⟩
  exact ⟨W.fnOf "law" "law" (qS kw) (qR kw) (qG kw) .none kV40 dc40 pm40 an40 cd40 ct40, fun s v => .of_eq rfl, fun base _ _ => qF3 T⟩
theorem walk {l : W.OpenLaw} {q : Program} {loose : List Str} {XP : (Str → Option Value) → Heap → Prop} {YP : World → Heap → Prop} {d : DefRec} {K : Params → W.Frag} (hn : l.most = some 63) (hdf : d.params.defaults = [])
    (hY : ∀ (w : World) (h : Heap), YP w h → (K w.params).In h)
    (F : ∀ (w : World) (mg : Str → Option Value) (fa : Addr) (h : Heap), (K w.params).In h → h.Ns mainGlobals mg → mg d.name = some (.ref fa) →
      ∃ fd : FuncData, (∀ (s : Shared) (u : Value), BindsTo s fd ⟨[u], []⟩ [("_law_script", u)]) ∧ ∀ base : Heap, (K w.params).In base → base.Ns mainGlobals mg → FnOk l.prog w (K w.params) mg base CX0 12 fa fd ["_law_script"] (qC3 (K w.params))) :
    W.WalkO q loose XP YP l.row.toRowW d [] (fun f vs => PySem.call f vs) :=
  L2.walk_of (n := 63) (k := 12) (x := "_law_script") (CX := fun _ => CX0) (sp := fun w => qC3 (K w.params)) hn (by decide) hdf ⟨rfl, by decide, by decide⟩ hY F (fun _ _ a ns hl _ hS => ⟨a, ns, rfl, hS, hl, fun _ => rfl⟩) fun _ _ _ _ _ z => z
end Lw
namespace PySem.W.Fast
def tw17024194546514959137 := ()
def tw7273298013909452418 := ()
def tw3596291058354485347 := ()
def tw14549913387838376195 := ()
def tw8918024422474972003 := ()
def tw6981598341247988453 := ()
def tw3406875536041313352 := ()
def tw14715676644990388457 := ()
def tw931872196939551114 := ()
def tw5709748240023272266 := ()
def tw13486189112487829803 := ()
def tw4993706791806029323 := ()
def tw15327987257592463502 := ()
def tw5403250469595642483 := ()
def tw11197823679925276148 := ()
def tw5894705019069725556 := ()
def tw826409208843734932 := ()
def tw6100081932078675317 := ()
def tw14416285979864064377 := ()
def tw7367287559367875724 := ()
def tw7186751560839995996 := ()
def tw4565419013103562987 := ()
def tw4044533323193747711 := ()
def tw272628890817923319 := ()
def tw6935045032781421881 := ()
def tw10138277374675952350 := ()
def tw11215375644965505470 := ()
def tw11931684519671983501 := ()
def tw7212304500255343810 := ()
def tw6281031538280873781 := ()
def tw771352225918213623 := ()
def tw5665669786018143423 := ()
def tw6721742259865866806 := ()
def tw18236473645668294398 := ()
def tw18279150750557710023 := ()
def tw2421859034499381 := ()
def tw9757429172279258278 := ()
def tw2072691894748546313 := ()
def tw7644920665510442064 := ()
def tw7079969736394724939 := ()
def tw8347936061079787065 := ()
def tw4191763942920740938 := ()
def tw11582148474785780792 := ()
def tw7421695295136422114 := ()
def tw3732024514749315459 := ()
def tw15135973017087528320 := ()
def tw3049928534381264995 := ()
def tw12946944441208172174 := ()
end PySem.W.Fast
open PySem PySem.W PyProof.Rows
set_option maxRecDepth 100000 in
set_option maxHeartbeats 0 in
theorem PySem.Challenge.cw_reelcut_k82_whole_read_back_holds : PySem.Challenge.rw_reelcut_k82_whole_read_back.Holds := by
  w_on; o_law; k_head; (case hw => w_witness2)
  k_fill
  refine Lw.walk (l := PySem.Challenge.rw_reelcut_k82_whole_read_back) rfl rfl (fun w h Y => PySem.W.kIn_of Y) ?F
  case F =>
    intro w mg fa h KX G hmg
    refine' Lw.all_mk KX G hmg ?a0 ?l0 ?c0 ?k0 ?a1 ?l1 ?c1 ?k1 ?a2 ?l2 ?c2 ?k2 ?a3 ?l3 ?c3 ?k3 ?a4 ?l4 ?c4 ?k4 ?a5 ?l5 ?c5 ?k5 ?a6 ?l6 ?c6 ?k6 ?a7 ?l7 ?c7 ?k7 ?a8 ?l8 ?c8 ?k8 ?a9 ?l9 ?c9 ?k9 ?a10 ?l10 ?c10 ?k10 ?a11 ?l11 ?c11 ?k11 ?a12 ?l12 ?c12 ?k12 ?a13 ?l13 ?c13 ?k13 ?a14 ?l14 ?c14 ?k14 ?a15 ?l15 ?c15 ?k15 ?a16 ?l16 ?c16 ?k16 ?a17 ?l17 ?c17 ?k17 ?a18 ?l18 ?c18 ?k18 ?a19 ?l19 ?c19 ?k19 ?a20 ?l20 ?c20 ?k20 ?a21 ?l21 ?c21 ?k21 ?a22 ?l22 ?c22 ?k22 ?a23 ?l23 ?c23 ?k23 ?a24 ?l24 ?c24 ?k24 ?a25 ?l25 ?c25 ?k25 ?a26 ?l26 ?c26 ?k26 ?a27 ?l27 ?c27 ?k27 ?a28 ?l28 ?c28 ?k28 ?a29 ?l29 ?c29 ?k29 ?a30 ?l30 ?c30 ?k30 ?a31 ?l31 ?c31 ?k31 ?a32 ?l32 ?c32 ?k32 ?a33 ?l33 ?c33 ?k33 ?a34 ?l34 ?c34 ?k34 ?a35 ?l35 ?c35 ?k35 ?a36 ?l36 ?c36 ?k36 ?a37 ?l37 ?c37 ?k37 ?a38 ?l38 ?c38 ?k38 ?a39 ?l39 ?c39 ?k39 ?a40 ?l40 ?c40 ?k40 ?xg0 ?xg1 ?xg2 ?x_NoNumber ?xz0 ?xz1 ?xz2 ?xz3 ?xz4 ?xz5 ?xz6 ?xz7 ?xz8 ?xz9 ?xz10 ?xcLETTERS ?xcLONGEST_NAME ?xcNOUGHT ?xlNOUGHT ?xcONE ?xlONE ?xcEND ?xlEND ?xcGAP ?xlGAP
    (case a0 | l0 | c0 | k0 | a1 | l1 | c1 | k1 | a2 | l2 | c2 | k2 | a3 | l3 | c3 | k3 | a4 | l4 | c4 | k4 | a5 | l5 | c5 | k5 | a6 | l6 | c6 | k6 | a7 | l7 | c7 | k7 | a8 | l8 | c8 | k8 | a9 | l9 | c9 | k9 | a10 | l10 | c10 | k10 | a11 | l11 | c11 | k11 | a12 | l12 | c12 | k12 | a13 | l13 | c13 | k13 | a14 | l14 | c14 | k14 | a15 | l15 | c15 | k15 | a16 | l16 | c16 | k16 | a17 | l17 | c17 | k17 | a18 | l18 | c18 | k18 | a19 | l19 | c19 | k19 | a20 | l20 | c20 | k20 | a21 | l21 | c21 | k21 | a22 | l22 | c22 | k22 | a23 | l23 | c23 | k23 | a24 | l24 | c24 | k24 | a25 | l25 | c25 | k25 | a26 | l26 | c26 | k26 | a27 | l27 | c27 | k27 | a28 | l28 | c28 | k28 | a29 | l29 | c29 | k29 | a30 | l30 | c30 | k30 | a31 | l31 | c31 | k31 | a32 | l32 | c32 | k32 | a33 | l33 | c33 | k33 | a34 | l34 | c34 | k34 | a35 | l35 | c35 | k35 | a36 | l36 | c36 | k36 | a37 | l37 | c37 | k37 | a38 | l38 | c38 | k38 | a39 | l39 | c39 | k39 | a40 | l40 | c40 | k40 | xg0 | xg1 | xg2 => k_is)
    (case x_NoNumber => (unfold L3.OwnX; kernel_rfl))
    (case xz0 | xz1 | xz2 | xz3 | xz4 | xz5 | xz6 | xz7 | xz8 | xz9 | xz10 | xcLETTERS | xcLONGEST_NAME | xcNOUGHT | xlNOUGHT | xcONE | xlONE | xcEND | xlEND | xcGAP | xlGAP => k_is)

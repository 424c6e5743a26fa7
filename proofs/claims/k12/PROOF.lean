import PyProof.Rows.All
import Wide.All
import OpenK.AllK
import Wide.FinOn
import HandS.TupMul
import HandS.TupAny
import HandS.ForMost
import HandS.Walk
import HandS.Conv
import HandS.Deep
import HandS.Wide
import HandS.Codes
import HandS.Flow
import HandS.SetFor
import HandS.Zip
import HandS.Style
import HandS.IsInst
import HandS.TryOnly
import KE.GoesMore
import HandS.Text
import HandS.Gcd
import HandS.WideBits
import HandS.DictComp
import KE.DataMinMax
import HandS.More
import HandS.Iter
import PyProof.Rows.SetFrom
import HandS.Strs
import PyProof.StrLawsRepr
import PyProof.ReprText
import PySem.Challenge.RW_overrows_k12_ranks_of_a_line
set_option Elab.async false
set_option linter.all false
set_option maxRecDepth 100000
set_option maxHeartbeats 4000000
namespace BV
open PySem PySem.Spec PyProof.Rows L2
/-! ### a tuple so many times, any number -/
theorem tup_mul_self (l : Addr) (xs : Array Value) (n : Nat) (dd : Option Addr) (sl : Array (Option Value)) (x : Int) (u : Tok) (c0 : (decide (x < -(2 ^ 63)) || decide (x ≥ 2 ^ 63)) = false) (c1 : (xs.isEmpty || x == 1) = true) :
    Meets (Builtin.«tuple.__mul__» ⟨[.ref l, .int x u], []⟩) (fun _ R s => s.heap.get? l = some { cls := .type "tuple", dict := dd, data := .seq xs n, slots := sl } ∧ R (.ok (.ret (.ref l))) s) :=
  .of_wp fun prog w A R s h => by
    obtain ⟨hp, g, d, tk, os⟩ := s
    obtain ⟨hl, hR⟩ := h
    have f1 := AutoSeq1.idx_int
    wp_walk using wpAny_loadPart' hl
    repeat (first
      | (refine wpAny_ite_false (decide_eq_false (by rw [c0]; exact Bool.false_ne_true)) ?_; wp_walk using wpAny_loadPart' hl)
      | (refine wpAny_ite_true (decide_eq_true (by rw [c1])) ?_; wp_walk using wpAny_loadPart' hl))
    exact ⟨_, rfl, hR⟩
theorem tup_mul_none (l : Addr) (xs : Array Value) (n : Nat) (dd : Option Addr) (sl : Array (Option Value)) (x : Int) (u : Tok) (c0 : (decide (x < -(2 ^ 63)) || decide (x ≥ 2 ^ 63)) = false) (c1 : (xs.isEmpty || x == 1) = false) (c2 : (decide (x ≤ 0) || xs.isEmpty) = true) :
    Meets (Builtin.«tuple.__mul__» ⟨[.ref l, .int x u], []⟩) (fun _ R s => s.heap.get? l = some { cls := .type "tuple", dict := dd, data := .seq xs n, slots := sl } ∧
      R (.ok (.ret (.ref s.heap.objs.size))) { s with heap := s.heap.push { cls := .type "tuple", data := .seq #[] }, toks := s.toks }) :=
  .of_wp fun prog w A R s h => by
    obtain ⟨hp, g, d, tk, os⟩ := s
    obtain ⟨hl, hR⟩ := h
    have f1 := AutoSeq1.idx_int
    wp_walk using wpAny_loadPart' hl
    repeat (first
      | (refine wpAny_ite_false (decide_eq_false (by rw [c0]; exact Bool.false_ne_true)) ?_; wp_walk using wpAny_loadPart' hl)
      | (refine wpAny_ite_false (decide_eq_false (by rw [c1]; exact Bool.false_ne_true)) ?_; wp_walk using wpAny_loadPart' hl)
      | (refine wpAny_ite_true (decide_eq_true (by rw [c2])) ?_; wp_walk using wpAny_loadPart' hl))
    exact ⟨_, rfl, hR⟩
def rRepA (K : PySem.W.Frag) : R2 := fun x y H Q => ∃ l k xs, x = .ref l ∧ y = .int k ∧ SqT K H l xs ∧ -1000000 ≤ k ∧ k ≤ 1000 ∧ xs.length ≤ 1000 ∧ (xs = [] ∨ k = 1 → Q (.ref l) H) ∧
  (¬ (xs = [] ∨ k = 1) → ∀ p, H p = none → Q (.ref p) (upd H p (.tup (List.replicate k.toNat xs).flatten)))
section
variable {X : Cx}
theorem op_repA : OpR X (binaryOp .Mult) (rRepA X.K) := by
  intro pins s σ H x y v u Q I rx ry h
  obtain ⟨l, k, xs, rfl, rfl, hT, k0, k1, hz, q1, q2⟩ := h
  by_cases h2 : xs ≠ [] ∧ 2 ≤ k
  · have hn : ¬ (xs = [] ∨ k = 1) := fun z => z.elim h2.1 (by omega)
    exact op_repT pins s σ H _ _ v u Q I rx ry ⟨l, k, xs, rfl, rfl, hT, h2.1, h2.2, k1, hz, q2 hn⟩
  · cases rx
    obtain ⟨t, rfl⟩ := ry
    obtain ⟨its, r, ⟨⟨cls, dd, data, sl⟩, ho, hc, n, hd⟩, hs⟩ := I.tuple hT
    simp only at hc hd
    subst hc hd
    have hlen : its.length = xs.length := r.length.symm
    have c0 : (decide (k < -(2 ^ 63)) || decide (k ≥ 2 ^ 63)) = false := by
      rw [Bool.or_eq_false_iff]
      exact ⟨decide_eq_false (by omega), decide_eq_false (by omega)⟩
    have em : its.toArray.isEmpty = decide (xs = []) := by
      cases its with
      | nil => cases r; rfl
      | cons a b => cases r; rfl
    refine wpAny_binaryOp_repeat_ref (T := "tuple") (U := "int") (by decide) ⟨_, ho, rfl⟩ (fun z => typeIs_int z k t) noFill_tuple_mul F.fills_int_mul F.slot_int_rmul repeat_tuple F.slot_int_index.lookup
      (call_meets F.slot_int_rmul (typeIs_int s k t) F.entry_int_rmul (F.args_int_rmul_2 _ _) (int_rmul_tuple k t l its.toArray n dd sl) ⟨ho, rfl, ⟨_, ho, rfl⟩, ?_⟩)
    by_cases h1 : xs = [] ∨ k = 1
    · have c1 : (its.toArray.isEmpty || k == 1) = true := by
        rw [em]
        rcases h1 with h1 | h1
        · rw [decide_eq_true h1]; rfl
        · subst h1; simp
      exact call_meets F.slot_tuple_mul ⟨_, ho, rfl⟩ F.entry_tuple_mul (F.args_tuple_mul_2 _ _) (tup_mul_self l its.toArray n dd sl k t c0 c1) ⟨ho, ⟨.ref l, H, I, rfl, q1 h1⟩⟩
    · have hx : xs ≠ [] := fun z => h1 (.inl z)
      have hk : k ≠ 1 := fun z => h1 (.inr z)
      have hk0 : k ≤ 0 := by
        by_cases hk2 : 2 ≤ k
        · exact absurd ⟨hx, hk2⟩ h2
        · omega
      have c1 : (its.toArray.isEmpty || k == 1) = false := by
        rw [em, decide_eq_false hx, Bool.false_or]
        exact beq_eq_false_iff_ne.mpr hk
      have c2 : (decide (k ≤ 0) || its.toArray.isEmpty) = true := by rw [decide_eq_true hk0]; rfl
      refine call_meets F.slot_tuple_mul ⟨_, ho, rfl⟩ F.entry_tuple_mul (F.args_tuple_mul_2 _ _) (tup_mul_none l its.toArray n dd sl k t c0 c1 c2) ⟨ho, ?_⟩
      have e0 : (List.replicate k.toNat xs).flatten = [] := by
        have : k.toNat = 0 := by omega
        rw [this]; rfl
      have q := q2 h1
      rw [e0] at q
      refine ⟨.ref s.heap.objs.size, _, I.laid (t' := s.toks) (o := .tup []) (fun b ob z => Heap.get?_push_of_some _ z) (Nat.le_refl _) ?_, rfl, q _ (I.hok.fresh (Nat.le_refl _))⟩
      exact ⟨Nat.zero_le _, _, .nil, IsTup.new _ _⟩
end
end BV
set_option Elab.async false
set_option linter.all false
set_option maxRecDepth 100000
namespace BV
open PySem PySem.Spec PyProof.Rows L2

/-! ### data by value -/
abbrev D := PyData
/-- al: lists that are not to be leant upon (cells, lists under way); ce: the cells among them, in order -/
structure Ad where
  al : List Addr
  ce : List Addr
def Ad.av (β : Ad) (a : Addr) : Ad := ⟨a :: β.al, β.ce⟩
def Ad.avs (β : Ad) (ns : List Addr) : Ad := ⟨ns ++ β.al, β.ce⟩
def Ad.push (β : Ad) (a : Addr) : Ad := ⟨a :: β.al, β.ce ++ [a]⟩
mutual
inductive Bp (K : PySem.W.Frag) (β : Ad) (H : Hp) : V → D → Prop
  | non : Bp K β H .non .none
  | bl (b : Bool) : Bp K β H (.bl b) (.bool b)
  | int (i : Int) : Bp K β H (.int i) (.int i)
  | str (x : Str) : Bp K β H (.str x) (.str x)
  | lst {a : Addr} {xs : List V} {ds : List D} : a ∉ β.al → H a = some (.lst xs) → BpA K β H xs ds → Bp K β H (.ref a) (.list ds)
  | tup {a : Addr} {xs : List V} {ds : List D} : SqT K H a xs → BpA K β H xs ds → Bp K β H (.ref a) (.tuple ds)
inductive BpA (K : PySem.W.Frag) (β : Ad) (H : Hp) : List V → List D → Prop
  | nil : BpA K β H [] []
  | cons {v : V} {vs : List V} {d : D} {ds : List D} : Bp K β H v d → BpA K β H vs ds → BpA K β H (v :: vs) (d :: ds)
end
section
variable {K : PySem.W.Frag} {β β' : Ad} {H H' : Hp}
/-- all that stands but the cells is kept -/
def Keep (β : Ad) (H H' : Hp) : Prop := ∀ a o, H a = some o → a ∈ β.ce ∨ H' a = some o
def KeepA (β : Ad) (H H' : Hp) : Prop := ∀ a o, H a = some o → a ∈ β.al ∨ H' a = some o
/-- the addresses hold lists -/
def CellL (β : Ad) (H : Hp) : Prop := (∀ a ∈ β.ce, a ∈ β.al) ∧ ∀ a ∈ β.al, ∃ xs, H a = some (.lst xs)
theorem Keep.al (c : CellL β H) (k : Keep β H H') : KeepA β H H' := fun a o e => (k a o e).elim (fun z => .inl (c.1 a z)) .inr
theorem SqT.keep {a : Addr} {xs : List V} (c : CellL β H) (k : KeepA β H H') (h : SqT K H a xs) : SqT K H' a xs := by
  rcases h with h | h
  · refine .inl ?_
    rcases h with h | ⟨o, h⟩
    · rcases k a _ h with z | z
      · obtain ⟨ys, e⟩ := c.2 a z
        rw [h] at e; cases e
      · exact .inl z
    · rcases k a _ h with z | z
      · obtain ⟨ys, e⟩ := c.2 a z
        rw [h] at e; cases e
      · exact .inr ⟨o, z⟩
  · exact .inr h
mutual
theorem Bp.keepA (c : CellL β H) (k : KeepA β H H') (sub : ∀ a ∈ β'.al, a ∈ β.al ∨ H a = none) : ∀ {v : V} {d : D}, Bp K β H v d → Bp K β' H' v d
  | _, _, .non => .non
  | _, _, .bl b => .bl b
  | _, _, .int i => .int i
  | _, _, .str x => .str x
  | _, _, .lst n h r => .lst (fun z => (sub _ z).elim n (fun e => by rw [h] at e; cases e)) ((k _ _ h).elim (fun z => absurd z n) id) (BpA.keepA c k sub r)
  | _, _, .tup h r => .tup (SqT.keep c k h) (BpA.keepA c k sub r)
theorem BpA.keepA (c : CellL β H) (k : KeepA β H H') (sub : ∀ a ∈ β'.al, a ∈ β.al ∨ H a = none) : ∀ {vs : List V} {ds : List D}, BpA K β H vs ds → BpA K β' H' vs ds
  | _, _, .nil => .nil
  | _, _, .cons h r => .cons (Bp.keepA c k sub h) (BpA.keepA c k sub r)
end
theorem Bp.keep (c : CellL β H) (k : Keep β H H') (sub : ∀ a ∈ β'.al, a ∈ β.al ∨ H a = none) {v : V} {d : D} (h : Bp K β H v d) : Bp K β' H' v d := h.keepA c (k.al c) sub
theorem BpA.keep (c : CellL β H) (k : Keep β H H') (sub : ∀ a ∈ β'.al, a ∈ β.al ∨ H a = none) {vs : List V} {ds : List D} (h : BpA K β H vs ds) : BpA K β' H' vs ds := h.keepA c (k.al c) sub
mutual
theorem Bp.dp : ∀ {v : V} {d : D}, Bp K β H v d → Dp K H v d
  | _, _, .non => .non
  | _, _, .bl b => .bl b
  | _, _, .int i => .int i
  | _, _, .str x => .str x
  | _, _, .lst n h r => .lst (SqL.of h) (BpA.dp r)
  | _, _, .tup h r => .tup h (BpA.dp r)
theorem BpA.dp : ∀ {vs : List V} {ds : List D}, BpA K β H vs ds → DpAll K H vs ds
  | _, _, .nil => .nil
  | _, _, .cons h r => .cons (Bp.dp h) (BpA.dp r)
end
theorem Keep.refl : Keep β H H := fun _ _ h => .inr h
theorem BpA.len : ∀ {vs : List V} {ds : List D}, BpA K β H vs ds → vs.length = ds.length
  | _, _, .nil => rfl
  | _, _, .cons _ r => by rw [List.length_cons, List.length_cons, BpA.len r]
theorem BpA.get : ∀ {vs : List V} {ds : List D} {i : Nat} {v : V}, BpA K β H vs ds → vs[i]? = some v → ∃ d, ds[i]? = some d ∧ Bp K β H v d
  | _, _, _, _, .nil, h => by simp at h
  | _, _, 0, _, .cons h r, e => by
    simp at e; subst e; exact ⟨_, rfl, h⟩
  | _, _, i + 1, v, .cons h r, e => by
    obtain ⟨d, e1, e2⟩ := BpA.get (i := i) (v := v) r (by simpa using e)
    exact ⟨d, by simpa using e1, e2⟩
theorem BpA.get' : ∀ {vs : List V} {ds : List D} {i : Nat} {d : D}, BpA K β H vs ds → ds[i]? = some d → ∃ v, vs[i]? = some v ∧ Bp K β H v d
  | _, _, _, _, .nil, h => by simp at h
  | _, _, 0, _, .cons h r, e => by
    simp at e; subst e; exact ⟨_, rfl, h⟩
  | _, _, i + 1, v, .cons h r, e => by
    obtain ⟨d, e1, e2⟩ := BpA.get' (i := i) (d := v) r (by simpa using e)
    exact ⟨d, by simpa using e1, e2⟩
theorem BpA.append : ∀ {vs ws : List V} {ds es : List D}, BpA K β H vs ds → BpA K β H ws es → BpA K β H (vs ++ ws) (ds ++ es)
  | _, _, _, _, .nil, s => s
  | _, _, _, _, .cons h r, s => .cons h (BpA.append r s)
theorem BpA.take : ∀ {vs : List V} {ds : List D} (n : Nat), BpA K β H vs ds → BpA K β H (vs.take n) (ds.take n)
  | _, _, 0, _ => by simpa using .nil
  | _, _, n + 1, .nil => by simpa using .nil
  | _, _, n + 1, .cons h r => by simpa using .cons h (BpA.take n r)
theorem BpA.drop : ∀ {vs : List V} {ds : List D} (n : Nat), BpA K β H vs ds → BpA K β H (vs.drop n) (ds.drop n)
  | _, _, 0, h => by simpa using h
  | _, _, n + 1, .nil => by simpa using .nil
  | _, _, n + 1, .cons h r => by simpa using BpA.drop n r
theorem BpA.set {v : V} {d : D} (h : Bp K β H v d) : ∀ {vs : List V} {ds : List D} (n : Nat), BpA K β H vs ds → BpA K β H (vs.set n v) (ds.set n d)
  | _, _, _, .nil => by simpa using .nil
  | _, _, 0, .cons _ r => by simpa using .cons h r
  | _, _, n + 1, .cons h' r => by simpa using .cons h' (BpA.set h n r)
theorem BpA.rep {vs : List V} {ds : List D} (h : BpA K β H vs ds) : ∀ k : Nat, BpA K β H (List.replicate k vs).flatten (List.replicate k ds).flatten
  | 0 => by simpa using .nil
  | k + 1 => by
    rw [List.replicate_succ, List.flatten_cons, List.replicate_succ, List.flatten_cons]
    exact h.append (BpA.rep h k)

/-! ### values, the store of cells -/
inductive W where
  /-- by value, never changed -/
  | dat (d : D)
  /-- a list just made, nobody else has it -/
  | new (ds : List D)
  /-- the n-th cell (a list that may change) -/
  | hd (n : Nat)
  /-- a locked list (the script) -/
  | frz (ds : List D)
abbrev Env := List (Option W)
abbrev Sto := List (List PyData)

structure Cells (K : PySem.W.Frag) (β : Ad) (S : Sto) (H : Hp) : Prop where
  cl : CellL β H
  nd : β.ce.Nodup
  len : β.ce.length = S.length
  at_ : ∀ (i : Nat) (a : Addr) (ds : List D), β.ce[i]? = some a → S[i]? = some ds → ∃ xs, H a = some (.lst xs) ∧ BpA K β H xs ds
/-- a list that stands locked, or one of the text's own -/
def SqF (K : PySem.W.Frag) (H : Hp) (a : Addr) (xs : List V) : Prop := (∃ o, H a = some (.frz o (.lst xs))) ∨
  ∃ (o : Obj) (its : Array Value) (n : Nat), K.lookup a = some o ∧ o.cls = .type "list" ∧ o.dict = none ∧ o.data = .seq its n ∧ its.size ≤ sizeLine ∧ Vals xs its.toList
theorem SqF.sq {a : Addr} {xs : List V} (h : SqF K H a xs) : SqL K H a xs := h.elim (fun ⟨o, e⟩ => .inl (.inr ⟨o, e⟩)) .inr
theorem SqF.keep {a : Addr} {xs : List V} (c : CellL β H) (k : KeepA β H H') (h : SqF K H a xs) : SqF K H' a xs := by
  rcases h with ⟨o, h⟩ | h
  · rcases k a _ h with z | z
    · obtain ⟨ys, e⟩ := c.2 a z
      rw [h] at e; cases e
    · exact .inl ⟨o, z⟩
  · exact .inr h
/-- what a value in a name is -/
def Rw (K : PySem.W.Frag) (β : Ad) (H : Hp) (v : V) : W → Prop
  | .dat d => Bp K β H v d
  | .new _ => False
  | .hd n => ∃ a, β.ce[n]? = some a ∧ v = .ref a
  | .frz ds => ∃ a xs, v = .ref a ∧ SqF K H a xs ∧ BpA K β H xs ds
/-- what an expression's value is, H0 the heap ahead of it -/
def Rr (K : PySem.W.Frag) (β : Ad) (S : Sto) (H0 H : Hp) (v : V) : W → Prop
  | .new ds => ∃ a xs, v = .ref a ∧ H0 a = none ∧ H a = some (.lst xs) ∧ BpA K (β.av a) H xs ds ∧ Cells K (β.av a) S H
  | w => Rw K β H v w
/-- a value at hand -/
def Rv (K : PySem.W.Frag) (β : Ad) (H : Hp) (v : V) : W → Prop
  | .new ds => ∃ a xs, v = .ref a ∧ a ∉ β.al ∧ H a = some (.lst xs) ∧ BpA K β H xs ds
  | w => Rw K β H v w
theorem Keep.free {H0 : Hp} {a : Addr} (k : Keep β H0 H) (c2 : CellL β H) (h : H a = none) : H0 a = none := by
  cases e : H0 a with
  | none => rfl
  | some o =>
    rcases k a o e with z | z
    · obtain ⟨xs, q⟩ := c2.2 a (c2.1 a z)
      rw [h] at q; cases q
    · rw [h] at z; cases z
theorem Keep.trans {H1 H2 : Hp} (k : Keep β H H1) (k' : Keep β H1 H2) : Keep β H H2 := fun a o e => (k a o e).elim .inl fun e' => k' a o e'
theorem notin_of {a : Addr} (c : CellL β H) (h : H a = none) : a ∉ β.al := fun z => by
  obtain ⟨xs, q⟩ := c.2 a z
  rw [h] at q; cases q
theorem subR {β : Ad} {H : Hp} : ∀ a ∈ β.al, a ∈ β.al ∨ H a = none := fun _ h => .inl h
theorem subA {β : Ad} {H : Hp} {a : Addr} (h : H a = none) : ∀ b ∈ (β.av a).al, b ∈ β.al ∨ H b = none := fun b hb => by
  rcases List.mem_cons.mp hb with e | hb
  · subst e; exact .inr h
  · exact .inl hb
theorem subW {β : Ad} {H : Hp} {a : Addr} : ∀ b ∈ β.al, b ∈ (β.av a).al ∨ H b = none := fun b hb => .inl (List.mem_cons_of_mem _ hb)
theorem CellL.keep (c : CellL β H) (k : Keep β H H') (c' : ∀ a ∈ β.ce, ∃ xs, H' a = some (.lst xs)) : CellL β H' := ⟨c.1, fun a ha => by
  obtain ⟨xs, e⟩ := c.2 a ha
  rcases k a _ e with z | z
  · exact c' a z
  · exact ⟨xs, z⟩⟩
theorem CellL.av {a : Addr} {xs : List V} (c : CellL β H) (h : H a = some (.lst xs)) : CellL (β.av a) H := ⟨fun b hb => List.mem_cons_of_mem _ (c.1 b hb), fun b hb => by
  rcases List.mem_cons.mp hb with e | hb
  · subst e; exact ⟨xs, h⟩
  · exact c.2 b hb⟩
theorem BpA.weak {a : Addr} {vs : List V} {ds : List D} (c' : CellL (β.av a) H) (r : BpA K (β.av a) H vs ds) : BpA K β H vs ds := r.keep c' Keep.refl subW
theorem Rw.keep {v : V} {w : W} (c : CellL β H) (k : Keep β H H') (sub : ∀ a ∈ β'.al, a ∈ β.al ∨ H a = none) (pre : β.ce <+: β'.ce) (h : Rw K β H v w) : Rw K β' H' v w := by
  cases w with
  | dat d => exact Bp.keep c k sub h
  | new ds => exact h.elim
  | hd n =>
    obtain ⟨a, e, q⟩ := h
    obtain ⟨t, ht⟩ := pre
    exact ⟨a, by rw [← ht, List.getElem?_append_left (List.getElem?_eq_some_iff.mp e).1]; exact e, q⟩
  | frz ds =>
    obtain ⟨a, xs, e, q, r⟩ := h
    exact ⟨a, xs, e, q.keep c (k.al c), BpA.keep c k sub r⟩
theorem Rv.keep {v : V} {w : W} (c : CellL β H) (k : Keep β H H') (h : Rv K β H v w) : Rv K β H' v w := by
  cases w with
  | new ds =>
    obtain ⟨a, xs, e, n, q, r⟩ := h
    exact ⟨a, xs, e, n, (k _ _ q).elim (fun z => absurd (c.1 a z) n) id, BpA.keep c k subR r⟩
  | dat d => exact Rw.keep (K := K) (w := .dat d) c k subR (List.prefix_refl _) h
  | hd n => exact Rw.keep (K := K) (w := .hd n) c k subR (List.prefix_refl _) h
  | frz ds => exact Rw.keep (K := K) (w := .frz ds) c k subR (List.prefix_refl _) h
theorem Rr.rv {S : Sto} {H0 : Hp} {v : V} {w : W} (c0 : CellL β H0) (h : Rr K β S H0 H v w) : Rv K β H v w := by
  cases w with
  | new ds =>
    obtain ⟨a, xs, e, n, q, r, c⟩ := h
    exact ⟨a, xs, e, notin_of c0 n, q, r.weak c.cl⟩
  | dat d => exact h
  | hd n => exact h
  | frz ds => exact h
/-- an earlier start -/
theorem Rr.back {S : Sto} {H0 H1 : Hp} {v : V} {w : W} (c1 : CellL β H1) (k : Keep β H0 H1) (h : Rr K β S H1 H v w) : Rr K β S H0 H v w := by
  cases w with
  | new ds =>
    obtain ⟨a, xs, e, n, q⟩ := h
    exact ⟨a, xs, e, k.free c1 n, q⟩
  | dat d => exact h
  | hd n => exact h
  | frz ds => exact h
end

/-! ### the state, the judgements -/
structure SR (K : PySem.W.Frag) (β : Ad) (η : Env) (S : Sto) (σ : L2.St) (H : Hp) : Prop where
  cells : Cells K β S H
  len : η.length = σ.length
  env : ∀ (i : Nat) (w : W), η[i]? = some (some w) → ∃ v, σ[i]? = some (some v) ∧ Rw K β H v w
abbrev ME := Env → Sto → Option (W × Sto)
abbrev MA := Env → Sto → Option (List W × Sto)
abbrev MT := Env → Sto → Option (Bool × Sto)
def tV (K : PySem.W.Frag) (m : ME) : TE := fun σ H Q => ∃ β η S w S', SR K β η S σ H ∧ m η S = some (w, S') ∧
  ∀ v H', Keep β H H' → Cells K β S' H' → Rr K β S' H H' v w → Q v H'
/-- values in a row: ns the new lists among them, τ all that they must not lean on -/
inductive RrN (K : PySem.W.Frag) (β : Ad) (H : Hp) : List V → List W → List Addr → Prop
  | nil : RrN K β H [] [] []
  | val {v : V} {vs : List V} {w : W} {ws : List W} {ns : List Addr} : Rw K β H v w → RrN K β H vs ws ns → RrN K β H (v :: vs) (w :: ws) ns
  | new {a : Addr} {xs : List V} {vs : List V} {ds : List D} {ws : List W} {ns : List Addr} : H a = some (.lst xs) → BpA K β H xs ds → RrN K β H vs ws ns → RrN K β H (.ref a :: vs) (.new ds :: ws) (a :: ns)
def RrA (K : PySem.W.Frag) (β : Ad) (S : Sto) (H0 H : Hp) (vs : List V) (ws : List W) : Prop := ∃ ns, RrN K (β.avs ns) H vs ws ns ∧ ns.Nodup ∧ (∀ a ∈ ns, H0 a = none) ∧ Cells K (β.avs ns) S H
inductive RvA (K : PySem.W.Frag) (β : Ad) (H : Hp) : List V → List W → Prop
  | nil : RvA K β H [] []
  | cons {v : V} {vs : List V} {w : W} {ws : List W} : Rv K β H v w → RvA K β H vs ws → RvA K β H (v :: vs) (w :: ws)
def tVs (K : PySem.W.Frag) (m : MA) : TA := fun σ H Q => ∃ β η S ws S', SR K β η S σ H ∧ m η S = some (ws, S') ∧
  ∀ vs H', Keep β H H' → Cells K β S' H' → RrA K β S' H H' vs ws → Q vs H'
def tT (K : PySem.W.Frag) (m : MT) : TT := fun σ H Q => ∃ β η S b S', SR K β η S σ H ∧ m η S = some (b, S') ∧
  ∀ H', Keep β H H' → Cells K β S' H' → Q b H'
abbrev DE (X : Cx) (e : Expr) (m : ME) : Prop := PE X e (tV X.K m)
abbrev DA (X : Cx) (es : List Expr) (m : MA) : Prop := PA X es (tVs X.K m)
abbrev DT (X : Cx) (e : Expr) (m : MT) : Prop := PT X e (tT X.K m)
theorem _root_.L2.PE.imp {X : Cx} {e : Expr} {t t' : TE} (h : PE X e t) (i : ∀ σ H Q, t' σ H Q → t σ H Q) : PE X e t' := ⟨fun pins s σ H Q I q => h.run pins s σ H Q I (i σ H Q q)⟩
theorem _root_.L2.PA.imp {X : Cx} {e : List Expr} {t t' : TA} (h : PA X e t) (i : ∀ σ H Q, t' σ H Q → t σ H Q) : PA X e t' := ⟨fun pos pins s σ H Q I q => h.run pos pins s σ H Q I (i σ H Q q)⟩
theorem _root_.L2.PT.imp {X : Cx} {e : Expr} {t t' : TT} (h : PT X e t) (i : ∀ σ H Q, t' σ H Q → t σ H Q) : PT X e t' := ⟨fun pins s σ H Q I q => h.run pins s σ H Q I (i σ H Q q)⟩
theorem _root_.L2.PW.imp {X : Cx} {e : Expr} {t t' : TT} (h : PW X e t) (i : ∀ σ H Q, t' σ H Q → t σ H Q) : PW X e t' := ⟨fun wh pins s σ H Q I q => h.run wh pins s σ H Q I (i σ H Q q)⟩
section
variable {K : PySem.W.Frag} {β β' : Ad} {H H0 H' : Hp} {η : Env} {S S' : Sto} {σ : L2.St} {v : V} {w : W}
theorem SR.cl (r : SR K β η S σ H) : CellL β H := r.cells.cl
theorem SR.keep (r : SR K β η S σ H) (k : Keep β H H') (c : Cells K β S' H') : SR K β η S' σ H' :=
  ⟨c, r.len, fun i w e => let ⟨v, e1, q⟩ := r.env i w e; ⟨v, e1, q.keep r.cl k subR (List.prefix_refl _)⟩⟩
theorem Rw.rr (h : Rw K β H v w) : Rr K β S H0 H v w := by
  cases w with
  | new ds => exact h.elim
  | dat d => exact h
  | hd n => exact h
  | frz ds => exact h
theorem Rw.rv (h : Rw K β H v w) : Rv K β H v w := by
  cases w with
  | new ds => exact h.elim
  | dat d => exact h
  | hd n => exact h
  | frz ds => exact h
theorem avs_sub {ns : List Addr} : ∀ b ∈ β.al, b ∈ (β.avs ns).al ∨ H b = none := fun b hb => .inl (List.mem_append_right _ hb)
theorem Rw.mono (c : CellL β' H) (sub : ∀ a ∈ β.al, a ∈ β'.al) (pre : β'.ce = β.ce) (h : Rw K β' H v w) : Rw K β H v w := Rw.keep c Keep.refl (fun a ha => .inl (sub a ha)) (by rw [pre]; exact List.prefix_refl _) h
theorem RrN.rva {β' : Ad} {vs : List V} {ws : List W} {ns : List Addr} (c0 : CellL β H0) (c : CellL β' H) (sub : ∀ a ∈ β.al, a ∈ β'.al) (ce : β'.ce = β.ce) (r : RrN K β' H vs ws ns) : (∀ a ∈ ns, H0 a = none) → RvA K β H vs ws := by
  induction r with
  | nil => exact fun _ => .nil
  | val h _ ih => exact fun hms => .cons (Rw.mono c sub ce h).rv (ih hms)
  | new h1 h2 _ ih => exact fun hms => .cons ⟨_, _, rfl, notin_of c0 (hms _ List.mem_cons_self), h1, h2.keep c Keep.refl fun b hb => .inl (sub b hb)⟩ (ih fun a ha => hms a (List.mem_cons_of_mem _ ha))
theorem RrA.rva {vs : List V} {ws : List W} (c0 : CellL β H0) (h : RrA K β S H0 H vs ws) : RvA K β H vs ws := by
  obtain ⟨ns, r, nd, fr, c⟩ := h
  exact r.rva c0 c.cl (fun a ha => List.mem_append_right _ ha) rfl fr
theorem RvA.len {vs : List V} {ws : List W} (h : RvA K β H vs ws) : vs.length = ws.length := by
  induction h with
  | nil => rfl
  | cons r _ ih => rw [List.length_cons, List.length_cons, ih]

/-! ### views -/
/-- data that may be stored -/
def ditem : W → Option D
  | .dat d => some d
  | .new ds => some (.list ds)
  | _ => none
/-- data to be read -/
def dview (S : Sto) : W → Option D
  | .dat d => some d
  | .new ds => some (.list ds)
  | .hd n => S[n]?.map .list
  | .frz ds => some (.list ds)
/-- a list's items -/
def lview (S : Sto) : W → Option (List D)
  | .dat (.list ds) => some ds
  | .new ds => some ds
  | .hd n => S[n]?
  | _ => none
def tview : W → Option (List D)
  | .dat (.tuple ds) => some ds
  | _ => none
def iview : W → Option Int
  | .dat (.int i) => some i
  | _ => none
def bview : W → Option Bool
  | .dat (.bool i) => some i
  | _ => none
def strview : W → Option Str
  | .dat (.str i) => some i
  | _ => none
theorem Rv.item {d : D} (h : Rv K β H v w) (e : ditem w = some d) : Bp K β H v d := by
  cases w with
  | dat d' => cases e; exact h
  | new ds =>
    cases e
    obtain ⟨a, xs, rfl, n, q, r⟩ := h
    exact .lst n q r
  | hd n => cases e
  | frz ds => cases e
theorem Rv.list {ds : List D} (c : Cells K β S H) (h : Rv K β H v w) (e : lview S w = some ds) : ∃ a xs, v = .ref a ∧ H a = some (.lst xs) ∧ BpA K β H xs ds := by
  cases w with
  | dat d =>
    cases d with
    | list es =>
      cases e
      cases (show Bp K β H v (.list ds) from h) with
      | lst n q r => exact ⟨_, _, rfl, q, r⟩
    | _ => cases e
  | new es =>
    cases e
    obtain ⟨a, xs, rfl, n, q, r⟩ := h
    exact ⟨a, xs, rfl, q, r⟩
  | hd n =>
    obtain ⟨a, e1, rfl⟩ := h
    obtain ⟨xs, q, r⟩ := c.at_ n a ds e1 e
    exact ⟨a, xs, rfl, q, r⟩
  | frz es => cases e
theorem Rv.tuple {ds : List D} (h : Rv K β H v w) (e : tview w = some ds) : ∃ a xs, v = .ref a ∧ SqT K H a xs ∧ BpA K β H xs ds := by
  cases w with
  | dat d =>
    cases d with
    | tuple es =>
      cases e
      cases (show Bp K β H v (.tuple ds) from h) with
      | tup q r => exact ⟨_, _, rfl, q, r⟩
    | _ => cases e
  | _ => cases e
theorem Rv.int {i : Int} (h : Rv K β H v w) (e : iview w = some i) : v = .int i := by
  cases w with
  | dat d =>
    cases d with
    | int j =>
      cases e
      cases (show Bp K β H v (.int i) from h) with
      | int => rfl
    | _ => cases e
  | _ => cases e
theorem Rv.bool {i : Bool} (h : Rv K β H v w) (e : bview w = some i) : v = .bl i := by
  cases w with
  | dat d =>
    cases d with
    | bool j =>
      cases e
      cases (show Bp K β H v (.bool i) from h) with
      | bl => rfl
    | _ => cases e
  | _ => cases e
theorem Rv.str {i : Str} (h : Rv K β H v w) (e : strview w = some i) : v = .str i := by
  cases w with
  | dat d =>
    cases d with
    | str j =>
      cases e
      cases (show Bp K β H v (.str i) from h) with
      | str => rfl
    | _ => cases e
  | _ => cases e
theorem Rv.dp {d : D} (c : Cells K β S H) (h : Rv K β H v w) (e : dview S w = some d) : Dp K H v d := by
  cases w with
  | dat d' => cases e; exact (h.item (d := d) rfl).dp
  | new ds => cases e; exact (h.item (d := .list ds) rfl).dp
  | hd n =>
    cases q : S[n]? with
    | none => rw [dview, q] at e; cases e
    | some ds =>
      rw [dview, q] at e
      cases e
      obtain ⟨a, xs, rfl, h1, h2⟩ := h.list (ds := ds) c q
      exact .lst (SqL.of h1) h2.dp
  | frz ds =>
    cases e
    obtain ⟨a, xs, rfl, h1, h2⟩ := h
    exact .lst h1.sq h2.dp
/-- what is wanted behind a step that keeps the store -/
abbrev Then (K : PySem.W.Frag) (β : Ad) (S : Sto) (H : Hp) (w : W) (Q : VK) : Prop := ∀ v H', Keep β H H' → Cells K β S H' → Rr K β S H H' v w → Q v H'
theorem Then.val (c : Cells K β S H) {Q : VK} (q : Then K β S H w Q) (r : Rw K β H v w) : Q v H := q v H Keep.refl c r.rr
theorem Then.int (c : Cells K β S H) {Q : VK} {i : Int} (q : Then K β S H (.dat (.int i)) Q) : Q (.int i) H := q _ H Keep.refl c (.int i)
theorem Then.bool (c : Cells K β S H) {Q : VK} {i : Bool} (q : Then K β S H (.dat (.bool i)) Q) : Q (.bl i) H := q _ H Keep.refl c (.bl i)
theorem Then.str (c : Cells K β S H) {Q : VK} {i : Str} (q : Then K β S H (.dat (.str i)) Q) : Q (.str i) H := q _ H Keep.refl c (.str i)
theorem keep_upd {p : Addr} {o : HO} (h : H p = none) : Keep β H (upd H p o) := fun a o' e => .inr (by rw [upd_ne (ne_of_none e h)]; exact e)
theorem Cells.same (c : Cells K β S H) (k : ∀ a o, H a = some o → H' a = some o) (sub : ∀ a ∈ β'.al, a ∈ β.al ∨ H a = none) (cl : CellL β' H') (ce : β'.ce = β.ce) : Cells K β' S H' :=
  ⟨cl, by rw [ce]; exact c.nd, by rw [ce]; exact c.len, fun i a ds e1 e2 => let ⟨xs, h, r⟩ := c.at_ i a ds (by rw [ce] at e1; exact e1) e2; ⟨xs, k _ _ h, r.keep c.cl (fun a o e => .inr (k a o e)) sub⟩⟩
theorem same_upd {p : Addr} {o : HO} (h : H p = none) : ∀ a o', H a = some o' → upd H p o a = some o' := fun a o' e => by rw [upd_ne (ne_of_none e h)]; exact e
theorem CellL.same (c : CellL β H) (k : ∀ a o, H a = some o → H' a = some o) : CellL β H' := ⟨c.1, fun a ha => let ⟨xs, e⟩ := c.2 a ha; ⟨xs, k _ _ e⟩⟩
theorem Cells.upd {p : Addr} {o : HO} (c : Cells K β S H) (h : H p = none) : Cells K β S (upd H p o) := c.same (same_upd h) subR (c.cl.same (same_upd h)) rfl
theorem BpA.same {vs : List V} {ds : List D} (c : CellL β H) (k : ∀ a o, H a = some o → H' a = some o) (sub : ∀ a ∈ β'.al, a ∈ β.al ∨ H a = none) (r : BpA K β H vs ds) : BpA K β' H' vs ds := r.keep c (fun a o e => .inr (k a o e)) sub
/-- a new list -/
theorem Then.new (c : Cells K β S H) {Q : VK} {xs : List V} {ds : List D} {p : Addr} (q : Then K β S H (.new ds) Q) (r : BpA K β H xs ds) (h : H p = none) : Q (.ref p) (L2.upd H p (.lst xs)) :=
  q _ _ (keep_upd h) (c.upd h) ⟨p, xs, rfl, h, upd_same, r.same c.cl (same_upd h) (subA h), c.same (same_upd h) (subA h) ((c.cl.same (same_upd h)).av upd_same) rfl⟩
/-- a new tuple -/
theorem Then.tup (c : Cells K β S H) {Q : VK} {xs : List V} {ds : List D} {p : Addr} (q : Then K β S H (.dat (.tuple ds)) Q) (r : BpA K β H xs ds) (h : H p = none) : Q (.ref p) (L2.upd H p (.tup xs)) :=
  q _ _ (keep_upd h) (c.upd h) (.tup (SqT.of upd_same) (r.same c.cl (same_upd h) subR))
end

/-! ### names, constants -/
def mVar (i : Nat) : ME := fun η S => match η[i]? with | some (some w) => some (w, S) | _ => none
def mDat (d : D) : ME := fun _ S => some (.dat d, S)
section
variable {X : Cx}
theorem tV_var {K : PySem.W.Frag} {i : Nat} {σ : L2.St} {H : Hp} {Q : VK} (h : tV K (mVar i) σ H Q) : tVar i σ H Q := by
  obtain ⟨β, η, S, w, S', r, e, q⟩ := h
  unfold mVar at e
  split at e
  · rename_i w' he
    cases e
    obtain ⟨v, e1, e2⟩ := r.env i w he
    exact ⟨v, e1, q v H Keep.refl r.cells e2.rr⟩
  · cases e
theorem de_var (i : Nat) {x : Str} {pos : Pos} (hN : X.N[i]? = some x) (hv : Vis X.env.scope x) (hd : (x == ("__debug__" : Str)) = false := by decide) (hcd : (x == ("__classdict__" : Str)) = false := by decide) : DE X (.Name x pos) (mVar i) :=
  (pe_var hN hv hd hcd).imp fun _ _ _ h => tV_var h
theorem tV_dat {K : PySem.W.Frag} {d : D} {v : V} {σ : L2.St} {H : Hp} {Q : VK} (hb : ∀ β, Bp K β H v d) (h : tV K (mDat d) σ H Q) : tC v σ H Q := by
  obtain ⟨β, η, S, w, S', r, e, q⟩ := h
  cases e
  exact q v H Keep.refl r.cells (hb β)
theorem de_int {i j pos} : DE X (.Constant (.int i) j pos) (mDat (.int i)) := pe_int.imp fun _ _ _ h => tV_dat (fun _ => .int i) h
theorem de_bl {i j pos} : DE X (.Constant (.bool i) j pos) (mDat (.bool i)) := pe_bl.imp fun _ _ _ h => tV_dat (fun _ => .bl i) h
theorem de_non {j pos} : DE X (.Constant .none j pos) (mDat .none) := pe_non.imp fun _ _ _ h => tV_dat (fun _ => .non) h
theorem de_str {i j pos} : DE X (.Constant (.str i) j pos) (mDat (.str i)) := pe_str.imp fun _ _ _ h => tV_dat (fun _ => .str i) h

/-! ### two operands -/
abbrev F2 := Sto → W → W → Option W
def mOp (f : F2) (ma mb : ME) : ME := fun η S => (ma η S).bind fun p => (mb η p.2).bind fun q => (f q.2 p.1 q.1).map fun w => (w, q.2)
/-- r is met by f -/
def Meets2 (K : PySem.W.Frag) (r : R2) (f : F2) : Prop := ∀ (β : Ad) (S : Sto) (H : Hp) (v1 v2 : V) (w1 w2 w : W) (Q : VK), Cells K β S H → Rv K β H v1 w1 → Rv K β H v2 w2 → f S w1 w2 = some w → Then K β S H w Q → r v1 v2 H Q
theorem tV_op {K : PySem.W.Frag} {r : R2} {f : F2} {ma mb : ME} (hf : Meets2 K r f) {σ : L2.St} {H : Hp} {Q : VK} (h : tV K (mOp f ma mb) σ H Q) : tOp r (tV K ma) (tV K mb) σ H Q := by
  obtain ⟨β, η, S, w, S', R, e, q⟩ := h
  unfold mOp at e
  cases e1 : ma η S with
  | none => rw [e1] at e; cases e
  | some p =>
    obtain ⟨w1, S1⟩ := p
    rw [e1] at e
    replace e : ((mb η S1).bind fun q => (f q.2 w1 q.1).map fun w => (w, q.2)) = some (w, S') := e
    cases e2 : mb η S1 with
    | none => rw [e2] at e; cases e
    | some p =>
      obtain ⟨w2, S2⟩ := p
      rw [e2] at e
      replace e : (f S2 w1 w2).map (fun w => (w, S2)) = some (w, S') := e
      cases e3 : f S2 w1 w2 with
      | none => rw [e3] at e; cases e
      | some w3 =>
        rw [e3] at e
        cases e
        refine ⟨β, η, S, w1, S1, R, e1, fun v1 H1 k1 c1 r1 => ?_⟩
        refine ⟨β, η, S1, w2, _, R.keep k1 c1, e2, fun v2 H2 k2 c2 r2 => ?_⟩
        refine hf β _ H2 v1 v2 w1 w2 w Q c2 ((r1.rv R.cl).keep c1.cl k2) (r2.rv c1.cl) e3 fun v3 H3 k3 c3 r3 => ?_
        exact q v3 H3 ((k1.trans k2).trans k3) c3 (r3.back c2.cl (k1.trans k2))
variable {a b : Expr} {ma mb : ME} {pos : Pos}
theorem de_op {op : Operator} {r : R2} {f : F2} (ho : OpR X (binaryOp op) r) (hf : Meets2 X.K r f) (ha : DE X a ma) (hb : DE X b mb) : DE X (.BinOp a op b pos) (mOp f ma mb) :=
  (pe_op ho ha hb).imp fun _ _ _ h => tV_op hf h
theorem de_cmp {op : CmpOp} {r : R2} {f : F2} (ho : OpR X (compareOp op) r) (hf : Meets2 X.K r f) (hm : behindInMarks op b = false) (ha : DE X a ma) (hb : DE X b mb) : DE X (.Compare a [op] [b] pos) (mOp f ma mb) :=
  (pe_cmpR ho ha hb hm).imp fun _ _ _ h => tV_op hf h
theorem de_ix {r : R2} {f : F2} (ho : IxR X r) (hf : Meets2 X.K r f) (hs : PlainIx b) (ha : DE X a ma) (hb : DE X b mb) : DE X (.Subscript a b pos) (mOp f ma mb) :=
  (pe_ix ho ha hb hs).imp fun _ _ _ h => tV_op hf h
end


/-! ### the operators -/
section
variable {K : PySem.W.Frag} {r r' : R2} {f f' : F2}
def orF (f f' : F2) : F2 := fun S a b => match f S a b with | some w => some w | none => f' S a b
theorem Meets2.or (h : Meets2 K r f) (h' : Meets2 K r' f') : Meets2 K (fun x y H Q => r x y H Q ∨ r' x y H Q) (orF f f') := by
  intro β S H v1 v2 w1 w2 w Q c a b e q
  unfold orF at e
  cases e1 : f S w1 w2 with
  | some w' => rw [e1] at e; cases e; exact .inl (h β S H v1 v2 w1 w2 w Q c a b e1 q)
  | none => rw [e1] at e; exact .inr (h' β S H v1 v2 w1 w2 w Q c a b e q)
/-- two ints -/
def f2I (C : Int → Int → Bool) (g : Int → Int → D) : F2 := fun _ a b => match iview a, iview b with
  | some i, some j => if C i j then some (.dat (g i j)) else none
  | _, _ => none
theorem f2I_inv {C : Int → Int → Bool} {g : Int → Int → D} {S : Sto} {a b w : W} (e : f2I C g S a b = some w) : ∃ i j, iview a = some i ∧ iview b = some j ∧ C i j = true ∧ w = .dat (g i j) := by
  unfold f2I at e
  split at e
  · rename_i i j h1 h2
    split at e
    · rename_i h3; cases e; exact ⟨i, j, h1, h2, h3, rfl⟩
    · cases e
  · cases e
theorem meets_I0 {g : Int → Int → Int} : Meets2 K (rI0 fun i j => .int (g i j)) (f2I (fun _ _ => true) fun i j => .int (g i j)) := by
  intro β S H v1 v2 w1 w2 w Q c a b e q
  obtain ⟨i, j, h1, h2, _, rfl⟩ := f2I_inv e
  exact ⟨i, j, a.int h1, b.int h2, q.int c⟩
theorem meets_B0 {g : Int → Int → Bool} : Meets2 K (rI0 fun i j => .bl (g i j)) (f2I (fun _ _ => true) fun i j => .bool (g i j)) := by
  intro β S H v1 v2 w1 w2 w Q c a b e q
  obtain ⟨i, j, h1, h2, _, rfl⟩ := f2I_inv e
  exact ⟨i, j, a.int h1, b.int h2, q.bool c⟩
theorem meets_I {C : Int → Int → Prop} {Cb : Int → Int → Bool} {g : Int → Int → Int} (hC : ∀ i j, Cb i j = true → C i j) : Meets2 K (rI C fun i j => .int (g i j)) (f2I Cb fun i j => .int (g i j)) := by
  intro β S H v1 v2 w1 w2 w Q c a b e q
  obtain ⟨i, j, h1, h2, h3, rfl⟩ := f2I_inv e
  exact ⟨i, j, a.int h1, b.int h2, hC i j h3, q.int c⟩
/-- lists put together -/
def fCatL : F2 := fun S a b => match lview S a, lview S b with
  | some x, some y => if x.length + y.length ≤ sizeLine then some (.new (x ++ y)) else none
  | _, _ => none
theorem meets_catL : Meets2 K rCat fCatL := by
  intro β S H v1 v2 w1 w2 w Q c a b e q
  unfold fCatL at e
  split at e
  · rename_i x y h1 h2
    split at e
    · rename_i h3
      cases e
      obtain ⟨l, xs, rfl, hx, rx⟩ := a.list c h1
      obtain ⟨l', ys, rfl, hy, ry⟩ := b.list c h2
      exact ⟨l, l', xs, ys, rfl, rfl, hx, hy, by rw [rx.len, ry.len]; exact h3, fun p hp => q.new c (rx.append ry) hp⟩
    · cases e
  · cases e
/-- tuples put together -/
def fCatT : F2 := fun _ a b => match tview a, tview b with
  | some x, some y => if x.length + y.length ≤ sizeLine then some (.dat (.tuple (x ++ y))) else none
  | _, _ => none
theorem meets_catT : Meets2 K (rCatA K) fCatT := by
  intro β S H v1 v2 w1 w2 w Q c a b e q
  unfold fCatT at e
  split at e
  · rename_i x y h1 h2
    split at e
    · rename_i h3
      cases e
      obtain ⟨l, xs, rfl, hx, rx⟩ := a.tuple h1
      obtain ⟨l', ys, rfl, hy, ry⟩ := b.tuple h2
      refine ⟨l, l', xs, ys, rfl, rfl, hx, hy, by rw [rx.len, ry.len]; exact h3, fun z => ?_, fun _ z => ?_, fun _ _ p hp => q.tup c (rx.append ry) hp⟩
      · subst z
        cases rx
        exact q _ H Keep.refl c (.tup hy ry)
      · subst z
        cases ry
        rw [List.append_nil] at q
        exact q _ H Keep.refl c (.tup hx rx)
    · cases e
  · cases e
def fCatS : F2 := fun _ a b => match strview a, strview b with
  | some x, some y => if x.length + y.length ≤ sizeLine then some (.dat (.str (x ++ y))) else none
  | _, _ => none
theorem meets_catS : Meets2 K (fun x y H Q => ∃ i j, x = .str i ∧ y = .str j ∧ i.length + j.length ≤ sizeLine ∧ Q (.str (i ++ j)) H) fCatS := by
  intro β S H v1 v2 w1 w2 w Q c a b e q
  unfold fCatS at e
  split at e
  · rename_i x y h1 h2
    split at e
    · rename_i h3
      cases e
      exact ⟨x, y, a.str h1, b.str h2, h3, q.str c⟩
    · cases e
  · cases e
/-- a list so many times -/
def fRep : F2 := fun S a b => match lview S a, iview b with
  | some x, some k => if -(2 ^ 63) ≤ k ∧ k < 2 ^ 63 ∧ x.length * k.toNat ≤ sizeLine then some (.new (List.replicate k.toNat x).flatten) else none
  | _, _ => none
theorem meets_rep : Meets2 K rRep fRep := by
  intro β S H v1 v2 w1 w2 w Q c a b e q
  unfold fRep at e
  split at e
  · rename_i x k h1 h2
    split at e
    · rename_i h3
      cases e
      obtain ⟨l, xs, rfl, hx, rx⟩ := a.list c h1
      exact ⟨l, k, xs, rfl, b.int h2, hx, h3.1, h3.2.1, by rw [rx.len]; exact h3.2.2, fun p hp => q.new c (rx.rep _) hp⟩
    · cases e
  · cases e
/-- a tuple so many times -/
def fRepT : F2 := fun _ a b => match tview a, iview b with
  | some x, some k => if -1000000 ≤ k ∧ k ≤ 1000 ∧ x.length ≤ 1000 then some (.dat (.tuple (List.replicate k.toNat x).flatten)) else none
  | _, _ => none
theorem meets_repT : Meets2 K (rRepA K) fRepT := by
  intro β S H v1 v2 w1 w2 w Q c a b e q
  unfold fRepT at e
  split at e
  · rename_i x k h1 h2
    split at e
    · rename_i h3
      cases e
      obtain ⟨l, xs, rfl, hx, rx⟩ := a.tuple h1
      refine ⟨l, k, xs, rfl, b.int h2, hx, h3.1, h3.2.1, by rw [rx.len]; exact h3.2.2, fun z => ?_, fun _ p hp => q.tup c (rx.rep _) hp⟩
      rcases z with z | z
      · subst z
        cases rx
        have e0 : (List.replicate k.toNat ([] : List PyData)).flatten = [] := by simp
        rw [e0] at q
        exact q _ H Keep.refl c (.tup hx .nil)
      · subst z
        have e1 : (List.replicate (1 : Int).toNat x).flatten = x := by simp
        rw [e1] at q
        exact q _ H Keep.refl c (.tup hx rx)
    · cases e
  · cases e
/-- == of data -/
def fEq (neg : Bool) : F2 := fun S a b => match dview S a, dview S b with
  | some x, some y => if SeqAt.shaped x = true ∧ SeqAt.shaped y = true then some (.dat (.bool (if neg then !PyData.eqv x y else PyData.eqv x y))) else none
  | _, _ => none
theorem fEq_inv {neg : Bool} {S : Sto} {a b w : W} (e : fEq neg S a b = some w) : ∃ x y, dview S a = some x ∧ dview S b = some y ∧ SeqAt.shaped x = true ∧ SeqAt.shaped y = true ∧ w = .dat (.bool (if neg then !PyData.eqv x y else PyData.eqv x y)) := by
  unfold fEq at e
  split at e
  · rename_i x y h1 h2
    split at e
    · rename_i h3; cases e; exact ⟨x, y, h1, h2, h3.1, h3.2, rfl⟩
    · cases e
  · cases e
theorem meets_eq : Meets2 K (rEqD K) (fEq false) := by
  intro β S H v1 v2 w1 w2 w Q c a b e q
  obtain ⟨x, y, h1, h2, h3, h4, rfl⟩ := fEq_inv e
  exact ⟨x, y, a.dp c h1, b.dp c h2, h3, h4, q.bool c⟩
theorem meets_ne : Meets2 K (rNeD K) (fEq true) := by
  intro β S H v1 v2 w1 w2 w Q c a b e q
  obtain ⟨x, y, h1, h2, h3, h4, rfl⟩ := fEq_inv e
  exact ⟨x, y, a.dp c h1, b.dp c h2, h3, h4, q.bool c⟩
/-- in, not in: lists of data of any depth; tuples of flat data -/
def isFlat : D → Bool
  | .none | .bool _ | .int _ | .str _ => true
  | _ => false
def fIn (neg : Bool) : F2 := fun S a b => match dview S a, dview S b with
  | some x, some (.list ds) => if SeqAt.shaped x = true ∧ SeqAt.shaped (.list ds) = true then some (.dat (.bool (if neg then !ds.any (fun z => PyData.eqv z x) else ds.any fun z => PyData.eqv z x))) else none
  | some x, some (.tuple ds) => if (isFlat x = true ∧ ds.all isFlat = true) ∨ (SeqAt.shaped x = true ∧ SeqAt.shaped (.tuple ds) = true) then some (.dat (.bool (if neg then !ds.any (fun z => PyData.eqv z x) else ds.any fun z => PyData.eqv z x))) else none
  | _, _ => none
theorem Bp.flat {β : Ad} {H : Hp} {v : V} {d : D} (h : Dp K H v d) (f : isFlat d = true) : flatV v = true := by
  cases h with
  | lst => cases f
  | tup => cases f
  | _ => rfl
theorem eqv_flat {H : Hp} {v u : V} {d e : D} (h : Dp K H v d) (h' : Dp K H u e) (f : isFlat d = true) (f' : isFlat e = true) : eqV v u = PyData.eqv d e := by
  cases h <;> first | (cases f; done) | (cases h' <;> first | (cases f'; done) | rfl | simp [eqV, PyData.eqv])
theorem flat_all {H : Hp} : ∀ {vs : List V} {ds : List D}, DpAll K H vs ds → ds.all isFlat = true → vs.all flatV = true
  | _, _, .nil, _ => rfl
  | _, _, .cons h r, f => by
    rw [List.all_cons, Bool.and_eq_true] at f ⊢
    exact ⟨Bp.flat (β := ⟨[], []⟩) h f.1, flat_all r f.2⟩
theorem inV_any {H : Hp} {u : V} {e : D} (h : Dp K H u e) (f : isFlat e = true) : ∀ {vs : List V} {ds : List D}, DpAll K H vs ds → ds.all isFlat = true → inV u vs = ds.any fun z => PyData.eqv z e
  | _, _, .nil, _ => rfl
  | _, _, .cons h' r, g => by
    rw [List.all_cons, Bool.and_eq_true] at g
    show (eqV _ u || inV u _) = _
    rw [List.any_cons, eqv_flat h' h g.1 f, inV_any h f r g.2]
def rInTD (K : PySem.W.Frag) (neg : Bool) : R2 := fun x y H Q => ∃ d ds, Dp K H x d ∧ Dp K H y (.tuple ds) ∧ SeqAt.shaped d = true ∧ SeqAt.shaped (.tuple ds) = true ∧ Q (.bl (if neg then !ds.any (fun z => PyData.eqv z d) else ds.any fun z => PyData.eqv z d)) H
theorem op_inTD {X : Cx} (hu : X.A.units + 65 < cLine) : OpR X (compareOp .In) (rInTD X.K false) := by
  intro pins s σ H x y vx vy Q I rx ry ⟨d, ds, hd, he, sd, se, q⟩
  obtain ⟨l1, r1⟩ := Dp.reads I d x vx hd rx
  obtain ⟨l2, r2⟩ := Dp.reads I (.tuple ds) y vy he ry
  have h3 := room_in_shaped (xs := ds) sd hu
  exact SeqAt.in_tuple_reads r2 r1 (SeqAt.canLay_of_shaped se) (SeqAt.canLay_of_shaped sd) h3 ⟨V.bl _, H, I, rfl, q⟩
theorem op_notInTD {X : Cx} (hu : X.A.units + 65 < cLine) : OpR X (compareOp .NotIn) (rInTD X.K true) := by
  intro pins s σ H x y vx vy Q I rx ry ⟨d, ds, hd, he, sd, se, q⟩
  obtain ⟨l1, r1⟩ := Dp.reads I d x vx hd rx
  obtain ⟨l2, r2⟩ := Dp.reads I (.tuple ds) y vy he ry
  have h3 := room_in_shaped (xs := ds) sd hu
  exact SeqAt.notIn_tuple_reads r2 r1 (SeqAt.canLay_of_shaped se) (SeqAt.canLay_of_shaped sd) h3 ⟨V.bl _, H, I, rfl, q⟩
theorem fIn_meets {neg : Bool} {r : R2} (hdt : ∀ v1 v2 H Q, rInTD K neg v1 v2 H Q → r v1 v2 H Q) (hd : ∀ v1 v2 H Q d ds, Dp K H v1 d → Dp K H v2 (.list ds) → SeqAt.shaped d = true → SeqAt.shaped (.list ds) = true → Q (.bl (if neg then !ds.any (fun z => PyData.eqv z d) else ds.any fun z => PyData.eqv z d)) H → r v1 v2 H Q)
    (ht : ∀ v1 v2 H Q, rIn K neg v1 v2 H Q → r v1 v2 H Q) : Meets2 K r (fIn neg) := by
  intro β S H v1 v2 w1 w2 w Q c a b e q
  unfold fIn at e
  split at e
  · rename_i x ds h1 h2
    split at e
    · rename_i h3; cases e
      exact hd v1 v2 H Q x ds (a.dp c h1) (b.dp c h2) h3.1 h3.2 (q.bool c)
    · cases e
  · rename_i x ds h1 h2
    split at e
    · rename_i h3; cases e
      have p1 := a.dp c h1
      have p2 := b.dp c h2
      rcases h3 with h3 | h3
      case inr => exact hdt v1 v2 H Q ⟨x, ds, p1, p2, h3.1, h3.2, q.bool c⟩
      cases p2 with
      | tup hs rs => exact ht _ _ H Q ⟨_, _, rfl, .inr hs, Bp.flat (β := ⟨[], []⟩) p1 h3.1, flat_all rs h3.2, by rw [inV_any p1 h3.1 rs h3.2]; exact q.bool c⟩
    · cases e
  · cases e
theorem meets_in : Meets2 K (fun x y H Q => rInD K x y H Q ∨ (rIn K false x y H Q ∨ rInTD K false x y H Q)) (fIn false) :=
  fIn_meets (fun _ _ _ _ h => .inr (.inr h)) (fun v1 v2 H Q d ds h1 h2 h3 h4 q => .inl ⟨d, ds, h1, h2, h3, h4, q⟩) fun _ _ _ _ h => .inr (.inl h)
theorem meets_notIn : Meets2 K (fun x y H Q => rNotInD K x y H Q ∨ (rIn K true x y H Q ∨ rInTD K true x y H Q)) (fIn true) :=
  fIn_meets (fun _ _ _ _ h => .inr (.inr h)) (fun v1 v2 H Q d ds h1 h2 h3 h4 q => .inl ⟨d, ds, h1, h2, h3, h4, q⟩) fun _ _ _ _ h => .inr (.inl h)
/-- is None -/
def isNoneW : W → Bool
  | .dat .none => true
  | _ => false
def fIsN (neg : Bool) : F2 := fun _ a b => if isNoneW b = true then some (.dat (.bool (if neg then !isNoneW a else isNoneW a))) else none
theorem Rv.none {β : Ad} {H : Hp} {v : V} {w : W} (h : Rv K β H v w) : decide (v = .non) = isNoneW w := by
  cases w with
  | dat d =>
    have r : Bp K β H v d := h
    cases r <;> rfl
  | new es => obtain ⟨a, xs, rfl, _⟩ := h; rfl
  | hd n => obtain ⟨a, _, rfl⟩ := h; rfl
  | frz n => obtain ⟨a, xs, rfl, _⟩ := h; rfl
theorem meets_isN : Meets2 K (fun x y H Q => y = .non ∧ Q (.bl (decide (x = .non))) H) (fIsN false) := by
  intro β S H v1 v2 w1 w2 w Q c a b e q
  unfold fIsN at e
  split at e
  · rename_i h
    cases e
    refine ⟨of_decide_eq_true (b.none.trans h), ?_⟩
    rw [a.none]
    exact q.bool c
  · cases e
theorem meets_notN : Meets2 K (fun x y H Q => y = .non ∧ Q (.bl (!decide (x = .non))) H) (fIsN true) := by
  intro β S H v1 v2 w1 w2 w Q c a b e q
  unfold fIsN at e
  split at e
  · rename_i h
    cases e
    refine ⟨of_decide_eq_true (b.none.trans h), ?_⟩
    rw [a.none]
    exact q.bool c
  · cases e
/-- an item -/
def seqview (S : Sto) : W → Option (List D)
  | .dat (.list ds) => some ds
  | .dat (.tuple ds) => some ds
  | .new ds => some ds
  | .hd n => S[n]?
  | .frz ds => some ds
  | _ => none
theorem Rv.seq {β : Ad} {S : Sto} {H : Hp} {v : V} {w : W} {ds : List D} (c : Cells K β S H) (h : Rv K β H v w) (e : seqview S w = some ds) : ∃ a xs, v = .ref a ∧ (SqL K H a xs ∨ SqT K H a xs) ∧ BpA K β H xs ds := by
  have viaL : lview S w = some ds → ∃ a xs, v = .ref a ∧ (SqL K H a xs ∨ SqT K H a xs) ∧ BpA K β H xs ds := fun e => by
    obtain ⟨a, xs, h1, h2, h3⟩ := h.list c e
    exact ⟨a, xs, h1, .inl (SqL.of h2), h3⟩
  cases w with
  | dat d =>
    cases d with
    | list es => exact viaL e
    | tuple es =>
      obtain ⟨a, xs, h1, h2, h3⟩ := h.tuple (ds := ds) e
      exact ⟨a, xs, h1, .inr h2, h3⟩
    | _ => cases e
  | new es => exact viaL e
  | hd n => exact viaL e
  | frz es =>
    cases e
    obtain ⟨a, xs, rfl, h1, h2⟩ := h
    exact ⟨a, xs, rfl, .inl h1.sq, h2⟩
def fIx : F2 := fun S a b => match seqview S a, iview b with
  | some x, some i => (atI x i).map .dat
  | _, _ => none
theorem BpA.atI {β : Ad} {H : Hp} {vs : List V} {ds : List D} {i : Int} {d : D} (r : BpA K β H vs ds) (e : L2.atI ds i = some d) : ∃ v, L2.atI vs i = some v ∧ Bp K β H v d := by
  unfold L2.atI at e ⊢
  rw [r.len]
  cases q : ixN ds.length i with
  | none => rw [q] at e; cases e
  | some j =>
    rw [q] at e
    exact r.get' e
theorem meets_ix : Meets2 K (rIx K) fIx := by
  intro β S H v1 v2 w1 w2 w Q c a b e q
  unfold fIx at e
  split at e
  · rename_i x i h1 h2
    cases e1 : L2.atI x i with
    | none => rw [e1] at e; cases e
    | some d =>
      rw [e1] at e
      cases e
      obtain ⟨p, xs, rfl, hs, r⟩ := a.seq c h1
      obtain ⟨v, e2, rv⟩ := r.atI e1
      have fin : Q v H := q.val (w := .dat d) c rv
      rcases hs with hs | hs
      · exact .inl ⟨p, xs, i, v, rfl, b.int h2, hs, e2, fin⟩
      · exact .inr (.inl ⟨p, xs, i, v, rfl, b.int h2, hs, e2, fin⟩)
  · cases e
end
section
variable {X : Cx} {a b : Expr} {ma mb : ME} {pos : Pos}
def fAdd : F2 := orF (f2I (fun _ _ => true) fun i j => .int (i + j)) (orF fCatL (orF fCatT fCatS))
theorem de_add (ha : DE X a ma) (hb : DE X b mb) : DE X (.BinOp a .Add b pos) (mOp fAdd ma mb) := de_op (op_add.or (op_cat.or (op_catA.or op_add_str))) (meets_I0.or (meets_catL.or (meets_catT.or meets_catS))) ha hb
def fSub : F2 := f2I (fun _ _ => true) fun i j => .int (i - j)
theorem de_sub (ha : DE X a ma) (hb : DE X b mb) : DE X (.BinOp a .Sub b pos) (mOp fSub ma mb) := de_op op_sub meets_I0 ha hb
def cMul (i j : Int) : Bool := decide ((-(2 ^ 64) < i ∧ i < 2 ^ 64) ∨ (-(2 ^ 64) < j ∧ j < 2 ^ 64))
def fMul : F2 := orF (f2I cMul fun i j => .int (i * j)) (orF fRep fRepT)
theorem de_mul (ha : DE X a ma) (hb : DE X b mb) : DE X (.BinOp a .Mult b pos) (mOp fMul ma mb) := de_op (op_mul.or (op_rep.or op_repA)) ((meets_I (C := CMul) fun i j h => by unfold cMul at h; unfold CMul; exact of_decide_eq_true h).or (meets_rep.or meets_repT)) ha hb
def cDiv (_ j : Int) : Bool := decide (0 < j ∧ j < 2 ^ 64)
def fDiv : F2 := f2I cDiv fun i j => .int (i / j)
theorem de_div (ha : DE X a ma) (hb : DE X b mb) : DE X (.BinOp a .FloorDiv b pos) (mOp fDiv ma mb) := de_op op_fdivW (meets_I fun i j h => by
  have h := of_decide_eq_true h
  exact wide_div (b := 64) h.1 (by omega) (by decide) (by decide)) ha hb
def fMod : F2 := f2I (fun _ j => decide (0 < j)) fun i j => .int (i % j)
theorem de_mod (ha : DE X a ma) (hb : DE X b mb) : DE X (.BinOp a .Mod b pos) (mOp fMod ma mb) := de_op op_mod (meets_I fun i j h => of_decide_eq_true h) ha hb
def cPow (i j : Int) : Bool := decide (0 ≤ j ∧ j ≤ 1000000 ∧ i.natAbs < 2 ^ 64)
def fPow : F2 := f2I cPow fun i j => .int (i ^ j.toNat)
theorem de_pow (ha : DE X a ma) (hb : DE X b mb) : DE X (.BinOp a .Pow b pos) (mOp fPow ma mb) := de_op op_pow (meets_I (C := CPow) fun i j h => by unfold cPow at h; unfold CPow; exact of_decide_eq_true h) ha hb
def fLt : F2 := f2I (fun _ _ => true) fun i j => .bool (decide (i < j))
def fLe : F2 := f2I (fun _ _ => true) fun i j => .bool (decide (i ≤ j))
def fGt : F2 := f2I (fun _ _ => true) fun i j => .bool (decide (j < i))
def fGe : F2 := f2I (fun _ _ => true) fun i j => .bool (decide (j ≤ i))
theorem de_lt (ha : DE X a ma) (hb : DE X b mb) : DE X (.Compare a [.Lt] [b] pos) (mOp fLt ma mb) := de_cmp op_lt meets_B0 (nomark _) ha hb
theorem de_le (ha : DE X a ma) (hb : DE X b mb) : DE X (.Compare a [.LtE] [b] pos) (mOp fLe ma mb) := de_cmp op_le meets_B0 (nomark _) ha hb
theorem de_gt (ha : DE X a ma) (hb : DE X b mb) : DE X (.Compare a [.Gt] [b] pos) (mOp fGt ma mb) := de_cmp op_gt meets_B0 (nomark _) ha hb
theorem de_ge (ha : DE X a ma) (hb : DE X b mb) : DE X (.Compare a [.GtE] [b] pos) (mOp fGe ma mb) := de_cmp op_ge meets_B0 (nomark _) ha hb
theorem de_eq (hu : X.A.units + 65 < cLine) (ha : DE X a ma) (hb : DE X b mb) : DE X (.Compare a [.Eq] [b] pos) (mOp (fEq false) ma mb) := de_cmp (op_eqD (by omega)) meets_eq (nomark _) ha hb
theorem de_ne (hu : X.A.units + 65 < cLine) (ha : DE X a ma) (hb : DE X b mb) : DE X (.Compare a [.NotEq] [b] pos) (mOp (fEq true) ma mb) := de_cmp (op_neD (by omega)) meets_ne (nomark _) ha hb
theorem de_in (hu : X.A.units + 65 < cLine) (ha : DE X a ma) (hb : DE X b mb) (hm : behindInMarks .In b = false := by rfl) : DE X (.Compare a [.In] [b] pos) (mOp (fIn false) ma mb) := de_cmp ((op_inD hu).or (op_in_seq.or (op_inTD hu))) meets_in hm ha hb
theorem de_notIn (hu : X.A.units + 65 < cLine) (ha : DE X a ma) (hb : DE X b mb) (hm : behindInMarks .NotIn b = false := by rfl) : DE X (.Compare a [.NotIn] [b] pos) (mOp (fIn true) ma mb) := de_cmp ((op_notInD hu).or (op_notIn_seq.or (op_notInTD hu))) meets_notIn hm ha hb
theorem de_isN (ha : DE X a ma) (hb : DE X b mb) : DE X (.Compare a [.Is] [b] pos) (mOp (fIsN false) ma mb) := de_cmp op_isN meets_isN (nomark _) ha hb
theorem de_notN (ha : DE X a ma) (hb : DE X b mb) : DE X (.Compare a [.IsNot] [b] pos) (mOp (fIsN true) ma mb) := de_cmp op_notN meets_notN (nomark _) ha hb
theorem de_idx (ha : DE X a ma) (hb : DE X b mb) (hs : PlainIx b := by exact fun _ _ => rfl) : DE X (.Subscript a b pos) (mOp fIx ma mb) := de_ix ix_seq meets_ix hs ha hb
/-! unary -/
def mUn (f : W → Option W) (ma : ME) : ME := fun η S => (ma η S).bind fun p => (f p.1).map fun w => (w, p.2)
def fNeg : W → Option W := fun a => (iview a).map fun i => .dat (.int (-i))
theorem tV_bind {K : PySem.W.Frag} {ma : ME} {g : W → Sto → Option (W × Sto)} {β : Ad} {η : Env} {S S' : Sto} {σ : L2.St} {H : Hp} {w : W} {Q : VK} (R : SR K β η S σ H) (e : (ma η S).bind (fun p => g p.1 p.2) = some (w, S'))
    (q : Then K β S' H w Q) (T : V → Hp → Prop) (h : ∀ w1 S1 v1 H1, ma η S = some (w1, S1) → g w1 S1 = some (w, S') → Cells K β S1 H1 → Keep β H H1 → Rv K β H1 v1 w1 → Rr K β S1 H H1 v1 w1 → Then K β S' H1 w Q → T v1 H1) : tV K ma σ H T := by
  cases e1 : ma η S with
  | none => rw [e1] at e; cases e
  | some p =>
    obtain ⟨w1, S1⟩ := p
    rw [e1] at e
    exact ⟨β, η, S, w1, S1, R, e1, fun v1 H1 k1 c1 r1 => h w1 S1 v1 H1 e1 e c1 k1 (r1.rv R.cl) r1 fun v2 H2 k2 c2 r2 => q v2 H2 (k1.trans k2) c2 (r2.back c1.cl k1)⟩
theorem de_neg (ha : DE X a ma) : DE X (.UnaryOp .USub a pos) (mUn fNeg ma) := (pe_un un_neg ha).imp fun σ H Q ⟨β, η, S, w, S', R, e, q⟩ => by
  refine tV_bind (g := fun w1 S1 => (fNeg w1).map fun w => (w, S1)) R e q _ fun w1 S1 v1 H1 _ e1 c1 k1 r1 _ q1 => ?_
  unfold fNeg at e1
  cases h : iview w1 with
  | none => rw [h] at e1; cases e1
  | some i =>
    rw [h] at e1
    cases e1
    exact ⟨i, r1.int h, q1.int c1⟩
end

end BV
set_option Elab.async false
set_option linter.all false
set_option maxRecDepth 100000
namespace BV
open PySem PySem.Spec PyProof.Rows L2

/-! ### tests -/
def mTest (m : ME) : MT := fun η S => (m η S).bind fun p => (bview p.1).map fun b => (b, p.2)
/-- truth of a value -/
def tru (S : Sto) : W → Option Bool
  | .dat .none => some false
  | .dat (.bool b) => some b
  | .dat (.int i) => some (i != 0)
  | .dat (.str x) => if x.length ≤ sizeLine then some ((x.length : Int) != 0) else none
  | .dat (.list ds) => some (!ds.isEmpty)
  | .dat (.tuple ds) => some (!ds.isEmpty)
  | .dat (.dict _) => none
  | .new ds => some (!ds.isEmpty)
  | .hd n => S[n]?.map fun ds => !ds.isEmpty
  | .frz ds => some (!ds.isEmpty)
def mTru (m : ME) : MT := fun η S => (m η S).bind fun p => (tru p.2 p.1).map fun b => (b, p.2)
theorem BpA.emp {K : PySem.W.Frag} {β : Ad} {H : Hp} {vs : List V} {ds : List D} (r : BpA K β H vs ds) : vs.isEmpty = ds.isEmpty := by cases r <;> rfl
theorem tru_ok {K : PySem.W.Frag} {β : Ad} {S : Sto} {H : Hp} {v : V} {w : W} {b : Bool} (c : Cells K β S H) (r : Rv K β H v w) (e : tru S w = some b) : TruV K v H b := by
  have viaL : ∀ ds : List D, lview S w = some ds → b = !ds.isEmpty → TruV K v H b := fun ds e1 e2 => by
    obtain ⟨a, xs, rfl, h, r⟩ := r.list c e1
    exact .inl ⟨xs, SqL.of h, by rw [r.emp]; exact e2⟩
  cases w with
  | dat d =>
    have q : Bp K β H v d := r.item rfl
    cases q with
    | non => cases e; rfl
    | bl k => cases e; rfl
    | int i => cases e; rfl
    | str x =>
      replace e : (if x.length ≤ sizeLine then some ((x.length : Int) != 0) else none) = some b := e
      split at e
      · rename_i h; cases e; exact ⟨h, rfl⟩
      · cases e
    | lst n h1 h2 => cases e; exact .inl ⟨_, SqL.of h1, by rw [h2.emp]⟩
    | tup h1 h2 => cases e; exact .inr (.inl ⟨_, h1, by rw [h2.emp]⟩)
  | new ds => cases e; exact viaL ds rfl rfl
  | hd n =>
    cases q : S[n]? with
    | none => rw [tru, q] at e; cases e
    | some ds => rw [tru, q] at e; cases e; exact viaL ds q rfl
  | frz ds =>
    cases e
    obtain ⟨a, xs, rfl, h1, h2⟩ := r
    exact .inl ⟨xs, h1.sq, by rw [h2.emp]⟩
section
variable {X : Cx} {a b c : Expr} {ma mb mc : ME} {pos : Pos} {ta tb : MT}
theorem tT_bind {K : PySem.W.Frag} {ma : ME} {g : W → Sto → Option (Bool × Sto)} {σ : L2.St} {H : Hp} {Q : Bool → Hp → Prop} (h : tT K (fun η S => (ma η S).bind fun p => g p.1 p.2) σ H Q)
    (T : V → Hp → Prop) (hT : ∀ β w1 S1 v1 H1 bo, g w1 S1 = some (bo, S1) → Cells K β S1 H1 → Rv K β H1 v1 w1 → Q bo H1 → T v1 H1) (hg : ∀ w1 S1 bo S2, g w1 S1 = some (bo, S2) → S2 = S1) : tV K ma σ H T := by
  obtain ⟨β, η, S, bo, S', R, e, q⟩ := h
  dsimp only at e
  cases e1 : ma η S with
  | none => rw [e1] at e; cases e
  | some p =>
    obtain ⟨w1, S1⟩ := p
    rw [e1] at e
    have e : g w1 S1 = some (bo, S') := e
    have := hg _ _ _ _ e
    subst this
    exact ⟨β, η, S, w1, _, R, e1, fun v1 H1 k1 c1 r1 => hT β w1 _ v1 H1 bo e c1 (r1.rv R.cl) (q H1 k1 c1)⟩
theorem tT_test {K : PySem.W.Frag} {m : ME} {σ : L2.St} {H : Hp} {Q : Bool → Hp → Prop} (h : tT K (mTest m) σ H Q) : tV K m σ H (fun x H' => ∃ k, x = .bl k ∧ Q k H') := by
  refine tT_bind (g := fun w S => (bview w).map fun b => (b, S)) h _ (fun β w1 S1 v1 H1 bo e c r q => ?_) (fun w1 S1 bo S2 e => ?_)
  · cases h : bview w1 with
    | none => rw [h] at e; cases e
    | some b' => rw [h] at e; cases e; exact ⟨_, r.bool h, q⟩
  · cases h : bview w1 with
    | none => rw [h] at e; cases e
    | some b' => rw [h] at e; cases e; rfl
theorem dt_cmp {op : CmpOp} {r : R2} {f : F2} (ho : OpR X (compareOp op) r) (hf : Meets2 X.K r f) (hm : behindInMarks op b = false) (ha : DE X a ma) (hb : DE X b mb) : DT X (.Compare a [op] [b] pos) (mTest (mOp f ma mb)) :=
  (pt_cmpR ho ha hb hm).imp fun _ _ _ h => tV_op hf (tT_test h)
theorem dt_lt (ha : DE X a ma) (hb : DE X b mb) : DT X (.Compare a [.Lt] [b] pos) (mTest (mOp fLt ma mb)) := dt_cmp op_lt meets_B0 (nomark _) ha hb
theorem dt_le (ha : DE X a ma) (hb : DE X b mb) : DT X (.Compare a [.LtE] [b] pos) (mTest (mOp fLe ma mb)) := dt_cmp op_le meets_B0 (nomark _) ha hb
theorem dt_gt (ha : DE X a ma) (hb : DE X b mb) : DT X (.Compare a [.Gt] [b] pos) (mTest (mOp fGt ma mb)) := dt_cmp op_gt meets_B0 (nomark _) ha hb
theorem dt_ge (ha : DE X a ma) (hb : DE X b mb) : DT X (.Compare a [.GtE] [b] pos) (mTest (mOp fGe ma mb)) := dt_cmp op_ge meets_B0 (nomark _) ha hb
theorem dt_eq (hu : X.A.units + 65 < cLine) (ha : DE X a ma) (hb : DE X b mb) : DT X (.Compare a [.Eq] [b] pos) (mTest (mOp (fEq false) ma mb)) := dt_cmp (op_eqD (by omega)) meets_eq (nomark _) ha hb
theorem dt_ne (hu : X.A.units + 65 < cLine) (ha : DE X a ma) (hb : DE X b mb) : DT X (.Compare a [.NotEq] [b] pos) (mTest (mOp (fEq true) ma mb)) := dt_cmp (op_neD (by omega)) meets_ne (nomark _) ha hb
theorem dt_in (hu : X.A.units + 65 < cLine) (ha : DE X a ma) (hb : DE X b mb) (hm : behindInMarks .In b = false := by rfl) : DT X (.Compare a [.In] [b] pos) (mTest (mOp (fIn false) ma mb)) := dt_cmp ((op_inD hu).or (op_in_seq.or (op_inTD hu))) meets_in hm ha hb
theorem dt_notIn (hu : X.A.units + 65 < cLine) (ha : DE X a ma) (hb : DE X b mb) (hm : behindInMarks .NotIn b = false := by rfl) : DT X (.Compare a [.NotIn] [b] pos) (mTest (mOp (fIn true) ma mb)) := dt_cmp ((op_notInD hu).or (op_notIn_seq.or (op_notInTD hu))) meets_notIn hm ha hb
theorem dt_isN (ha : DE X a ma) (hb : DE X b mb) : DT X (.Compare a [.Is] [b] pos) (mTest (mOp (fIsN false) ma mb)) := dt_cmp op_isN meets_isN (nomark _) ha hb
theorem dt_notN (ha : DE X a ma) (hb : DE X b mb) : DT X (.Compare a [.IsNot] [b] pos) (mTest (mOp (fIsN true) ma mb)) := dt_cmp op_notN meets_notN (nomark _) ha hb
theorem dt_tru (ha : DE X a ma) (he : ∀ whole, isTrue a X.env whole = (do let v ← whole; standAt a.pos; holding [v] (truthy v)) := by intro _; rfl) : DT X a (mTru ma) :=
  (pt_truth ha he).imp fun σ H Q h => by
    refine tT_bind (g := fun w S => (tru S w).map fun b => (b, S)) h _ (fun β w1 S1 v1 H1 bo e c r q => ?_) (fun w1 S1 bo S2 e => ?_)
    · cases h : tru S1 w1 with
      | none => rw [h] at e; cases e
      | some b' => rw [h] at e; cases e; exact ⟨_, tru_ok c r h, q⟩
    · cases h : tru S1 w1 with
      | none => rw [h] at e; cases e
      | some b' => rw [h] at e; cases e; rfl
/-! and, or, not, if-else -/
abbrev DW (X : Cx) (e : Expr) (m : MT) : Prop := PW X e (tT X.K m)
def mAndT (ta tb : MT) : MT := fun η S => (ta η S).bind fun p => if p.1 = true then tb η p.2 else some (false, p.2)
def mOrT (ta tb : MT) : MT := fun η S => (ta η S).bind fun p => if p.1 = true then some (true, p.2) else tb η p.2
def mNotT (ta : MT) : MT := fun η S => (ta η S).map fun p => (!p.1, p.2)
theorem tT_seq {K : PySem.W.Frag} {ta : MT} {g : Bool → MT} {σ : L2.St} {H : Hp} {Q : Bool → Hp → Prop} (h : tT K (fun η S => (ta η S).bind fun p => g p.1 η p.2) σ H Q) : tT K ta σ H fun c H1 => tT K (g c) σ H1 Q := by
  obtain ⟨β, η, S, bo, S', R, e, q⟩ := h
  dsimp only at e
  cases e1 : ta η S with
  | none => rw [e1] at e; cases e
  | some p =>
    obtain ⟨c, S1⟩ := p
    rw [e1] at e
    exact ⟨β, η, S, c, S1, R, e1, fun H1 k1 c1 => ⟨β, η, S1, bo, S', R.keep k1 c1, e, fun H2 k2 c2 => q H2 (k1.trans k2) c2⟩⟩
theorem tT_const {K : PySem.W.Frag} {b : Bool} {σ : L2.St} {H : Hp} {Q : Bool → Hp → Prop} (h : tT K (fun _ S => some (b, S)) σ H Q) : Q b H := by
  obtain ⟨β, η, S, bo, S', R, e, q⟩ := h
  cases e
  exact q H Keep.refl R.cells
theorem dw_and1 (ha : DT X a ta) : DW X (.BoolOp .And [a] pos) ta := pw_and1 ha
theorem dw_or1 (ha : DT X a ta) : DW X (.BoolOp .Or [a] pos) ta := pw_or1 ha
theorem dw_and {rest : List Expr} (ha : DT X a ta) (hb : DW X (.BoolOp .And (b :: rest) pos) tb) : DW X (.BoolOp .And (a :: b :: rest) pos) (mAndT ta tb) := (pw_and ha hb).imp fun σ H Q h => by
  have h := tT_seq (g := fun c => if c = true then tb else fun _ S => some (false, S)) (by
    refine cast ?_ h
    congr 1
    funext η S
    unfold mAndT
    congr 1
    funext p
    split <;> rfl)
  obtain ⟨β, η, S, bo, S', R, e, q⟩ := h
  refine ⟨β, η, S, bo, S', R, e, fun H1 k c => ?_⟩
  have q := q H1 k c
  cases bo with
  | true => exact q
  | false => exact tT_const q
theorem dw_or {rest : List Expr} (ha : DT X a ta) (hb : DW X (.BoolOp .Or (b :: rest) pos) tb) : DW X (.BoolOp .Or (a :: b :: rest) pos) (mOrT ta tb) := (pw_or ha hb).imp fun σ H Q h => by
  have h := tT_seq (g := fun c => if c = true then fun _ S => some (true, S) else tb) (by
    refine cast ?_ h
    congr 1
    funext η S
    unfold mOrT
    congr 1
    funext p
    split <;> rfl)
  obtain ⟨β, η, S, bo, S', R, e, q⟩ := h
  refine ⟨β, η, S, bo, S', R, e, fun H1 k c => ?_⟩
  have q := q H1 k c
  cases bo with
  | true => exact tT_const q
  | false => exact q
theorem dt_not (ha : DT X a ta) : DT X (.UnaryOp .Not a pos) (mNotT ta) := (pt_not ha).imp fun σ H Q h => by
  obtain ⟨β, η, S, bo, S', R, e, q⟩ := h
  unfold mNotT at e
  cases e1 : ta η S with
  | none => rw [e1] at e; cases e
  | some p => rw [e1] at e; cases e; exact ⟨β, η, S, p.1, p.2, R, e1, q⟩
theorem tT_then {K : PySem.W.Frag} {ta : MT} {g : Bool → ME} {σ : L2.St} {H : Hp} {Q : VK} (h : tV K (fun η S => (ta η S).bind fun p => g p.1 η p.2) σ H Q) : tT K ta σ H fun c H1 => tV K (g c) σ H1 Q := by
  obtain ⟨β, η, S, w, S', R, e, q⟩ := h
  dsimp only at e
  cases e1 : ta η S with
  | none => rw [e1] at e; cases e
  | some p =>
    obtain ⟨c, S1⟩ := p
    rw [e1] at e
    exact ⟨β, η, S, c, S1, R, e1, fun H1 k1 c1 => ⟨β, η, S1, w, S', R.keep k1 c1, e, fun v H2 k2 c2 r2 => q v H2 (k1.trans k2) c2 (r2.back c1.cl k1)⟩⟩
def mIf (t : MT) (ma mb : ME) : ME := fun η S => (t η S).bind fun p => (if p.1 = true then ma else mb) η p.2
theorem de_if (hc : DT X c ta) (ha : DE X a ma) (hb : DE X b mb) : DE X (.IfExp c a b pos) (mIf ta ma mb) := (pe_ifExp hc ha hb).imp fun σ H Q h => by
  have h := tT_then (g := fun c => if c = true then ma else mb) h
  obtain ⟨β, η, S, bo, S', R, e, q⟩ := h
  refine ⟨β, η, S, bo, S', R, e, fun H1 k c => ?_⟩
  have q := q H1 k c
  cases bo with
  | true => exact q
  | false => exact q
/-! values of and, or, not: bools -/
theorem tV_seq {K : PySem.W.Frag} {ma : ME} {g : W → ME} {σ : L2.St} {H : Hp} {Q : VK} (h : tV K (fun η S => (ma η S).bind fun p => g p.1 η p.2) σ H Q)
    (T : V → Hp → Prop) (hT : ∀ β η S w v H1, SR K β η S σ H1 → Rv K β H1 v w → (∃ w' S', g w η S = some (w', S') ∧ Then K β S' H1 w' Q) → T v H1) : tV K ma σ H T := by
  obtain ⟨β, η, S, w, S', R, e, q⟩ := h
  dsimp only at e
  cases e1 : ma η S with
  | none => rw [e1] at e; cases e
  | some p =>
    obtain ⟨c, S1⟩ := p
    rw [e1] at e
    exact ⟨β, η, S, c, S1, R, e1, fun v1 H1 k1 c1 r1 => hT β η S1 c v1 H1 (R.keep k1 c1) (r1.rv R.cl) ⟨w, S', e, fun v H2 k2 c2 r2 => q v H2 (k1.trans k2) c2 (r2.back c1.cl k1)⟩⟩
def mAndV (ma mb : ME) : ME := fun η S => (ma η S).bind fun p => match bview p.1 with | some true => mb η p.2 | some false => some (.dat (.bool false), p.2) | none => none
def mOrV (ma mb : ME) : ME := fun η S => (ma η S).bind fun p => match bview p.1 with | some false => mb η p.2 | some true => some (.dat (.bool true), p.2) | none => none
def mNotV (ma : ME) : ME := fun η S => (ma η S).bind fun p => match bview p.1 with | some k => some (.dat (.bool !k), p.2) | none => none
theorem de_one {op} (h : DE X a ma) : DE X (.BoolOp op [a] pos) ma := pe_one h
theorem de_and {rest : List Expr} (ha : DE X a ma) (hb : DE X (.BoolOp .And (b :: rest) pos) mb) : DE X (.BoolOp .And (a :: b :: rest) pos) (mAndV ma mb) := (pe_and ha hb).imp fun σ H Q h => by
  refine tV_seq (g := fun w η S => match bview w with | some true => mb η S | some false => some (.dat (.bool false), S) | none => none) h _ fun β η S w v H1 R r ⟨w', S', e, q⟩ => ?_
  split at e
  · rename_i h; exact ⟨true, r.bool h, ⟨β, η, S, w', S', R, e, q⟩⟩
  · rename_i h; cases e; exact ⟨false, r.bool h, q.bool R.cells⟩
  · cases e
theorem de_or {rest : List Expr} (ha : DE X a ma) (hb : DE X (.BoolOp .Or (b :: rest) pos) mb) : DE X (.BoolOp .Or (a :: b :: rest) pos) (mOrV ma mb) := (pe_or ha hb).imp fun σ H Q h => by
  refine tV_seq (g := fun w η S => match bview w with | some false => mb η S | some true => some (.dat (.bool true), S) | none => none) h _ fun β η S w v H1 R r ⟨w', S', e, q⟩ => ?_
  split at e
  · rename_i h; exact ⟨false, r.bool h, ⟨β, η, S, w', S', R, e, q⟩⟩
  · rename_i h; cases e; exact ⟨true, r.bool h, q.bool R.cells⟩
  · cases e
theorem de_not (ha : DE X a ma) : DE X (.UnaryOp .Not a pos) (mNotV ma) := (pe_not ha).imp fun σ H Q h => by
  refine tV_seq (g := fun w η S => match bview w with | some k => some (.dat (.bool !k), S) | none => none) h _ fun β η S w v H1 R r ⟨w', S', e, q⟩ => ?_
  split at e
  · rename_i k h; cases e; exact ⟨k, r.bool h, q.bool R.cells⟩
  · cases e
/-- a < b < c -/
def mChain (f f' : F2) (ma mb mc : ME) : ME := fun η S => (ma η S).bind fun p => (mb η p.2).bind fun q => (f q.2 p.1 q.1).bind fun w => match bview w with
  | some true => (mc η q.2).bind fun r => (f' r.2 q.1 r.1).map fun w => (w, r.2)
  | some false => some (.dat (.bool false), q.2)
  | none => none
theorem tV_chain {K : PySem.W.Frag} {C C' : Int → Int → Bool} {σ : L2.St} {H : Hp} {Q : VK} (h : tV K (mChain (f2I (fun _ _ => true) fun i j => .bool (C i j)) (f2I (fun _ _ => true) fun i j => .bool (C' i j)) ma mb mc) σ H Q) :
    tChain (rI0 fun i j => .bl (C i j)) (rI0 fun i j => .bl (C' i j)) (tV K ma) (tV K mb) (tV K mc) σ H Q := by
  obtain ⟨β, η, S, w, S', R, e, q⟩ := h
  unfold mChain at e
  cases e1 : ma η S with
  | none => rw [e1] at e; cases e
  | some p =>
    obtain ⟨w1, S1⟩ := p
    rw [e1] at e
    simp only [Option.bind_some] at e
    refine ⟨β, η, S, w1, S1, R, e1, fun v1 H1 k1 c1 r1 => ?_⟩
    cases e2 : mb η S1 with
    | none => rw [e2] at e; cases e
    | some p =>
      obtain ⟨w2, S2⟩ := p
      rw [e2] at e
      simp only [Option.bind_some] at e
      refine ⟨β, η, S1, w2, S2, R.keep k1 c1, e2, fun v2 H2 k2 c2 r2 => ?_⟩
      cases e3 : f2I (fun _ _ => true) (fun i j => PyData.bool (C i j)) S2 w1 w2 with
      | none => rw [e3] at e; cases e
      | some w3 =>
        rw [e3] at e
        obtain ⟨i, j, h1, h2, _, rfl⟩ := f2I_inv e3
        have q1 : v1 = .int i := ((r1.rv R.cl).keep c1.cl k2).int h1
        have q2 : v2 = .int j := (r2.rv c1.cl).int h2
        refine ⟨i, j, q1, q2, _, rfl, ?_⟩
        cases hc : C i j with
        | true =>
          rw [if_pos rfl]
          rw [hc] at e
          replace e : ((mc η S2).bind fun r => (f2I (fun _ _ => true) (fun i j => PyData.bool (C' i j)) r.2 w2 r.1).map fun w => (w, r.2)) = some (w, S') := e
          cases e4 : mc η S2 with
          | none => rw [e4] at e; cases e
          | some p =>
            obtain ⟨w4, S4⟩ := p
            rw [e4] at e
            simp only [Option.bind_some] at e
            refine ⟨β, η, S2, w4, S4, (R.keep k1 c1).keep k2 c2, e4, fun v4 H4 k4 c4 r4 => ?_⟩
            cases e5 : f2I (fun _ _ => true) (fun i j => PyData.bool (C' i j)) S4 w2 w4 with
            | none => rw [e5] at e; cases e
            | some w5 =>
              rw [e5] at e
              obtain ⟨i', j', h1', h2', _, rfl⟩ := f2I_inv e5
              cases e
              refine ⟨i', j', ((r2.rv c1.cl).keep c2.cl k4).int h1', (r4.rv c2.cl).int h2', ?_⟩
              exact q _ H4 ((k1.trans k2).trans k4) c4 (.bl _)
        | false =>
          rw [if_neg Bool.false_ne_true]
          rw [hc] at e
          cases e
          exact q _ H2 (k1.trans k2) c2 (.bl _)
theorem de_chain_le_le (ha : DE X a ma) (hb : DE X b mb) (hc : DE X c mc) (hm : lastMarks [.LtE, .LtE] [b, c] = false := by with_unfolding_all rfl) : DE X (.Compare a [.LtE, .LtE] [b, c] pos) (mChain fLe fLe ma mb mc) := (pe_chain op_le op_le ha hb hc hm).imp fun _ _ _ h => tV_chain h
theorem dt_chain_le_le (ha : DE X a ma) (hb : DE X b mb) (hc : DE X c mc) (hm : lastMarks [.LtE, .LtE] [b, c] = false := by with_unfolding_all rfl) : DT X (.Compare a [.LtE, .LtE] [b, c] pos) (mTest (mChain fLe fLe ma mb mc)) := (pt_chain op_le op_le ha hb hc hm).imp fun _ _ _ h => tV_chain (tT_test h)
theorem de_chain_lt_lt (ha : DE X a ma) (hb : DE X b mb) (hc : DE X c mc) (hm : lastMarks [.Lt, .Lt] [b, c] = false := by with_unfolding_all rfl) : DE X (.Compare a [.Lt, .Lt] [b, c] pos) (mChain fLt fLt ma mb mc) := (pe_chain op_lt op_lt ha hb hc hm).imp fun _ _ _ h => tV_chain h
theorem dt_chain_lt_lt (ha : DE X a ma) (hb : DE X b mb) (hc : DE X c mc) (hm : lastMarks [.Lt, .Lt] [b, c] = false := by with_unfolding_all rfl) : DT X (.Compare a [.Lt, .Lt] [b, c] pos) (mTest (mChain fLt fLt ma mb mc)) := (pt_chain op_lt op_lt ha hb hc hm).imp fun _ _ _ h => tV_chain (tT_test h)
theorem de_chain_le_lt (ha : DE X a ma) (hb : DE X b mb) (hc : DE X c mc) (hm : lastMarks [.LtE, .Lt] [b, c] = false := by with_unfolding_all rfl) : DE X (.Compare a [.LtE, .Lt] [b, c] pos) (mChain fLe fLt ma mb mc) := (pe_chain op_le op_lt ha hb hc hm).imp fun _ _ _ h => tV_chain h
theorem dt_chain_le_lt (ha : DE X a ma) (hb : DE X b mb) (hc : DE X c mc) (hm : lastMarks [.LtE, .Lt] [b, c] = false := by with_unfolding_all rfl) : DT X (.Compare a [.LtE, .Lt] [b, c] pos) (mTest (mChain fLe fLt ma mb mc)) := (pt_chain op_le op_lt ha hb hc hm).imp fun _ _ _ h => tV_chain (tT_test h)
theorem dt_chain_lt_le (ha : DE X a ma) (hb : DE X b mb) (hc : DE X c mc) (hm : lastMarks [.Lt, .LtE] [b, c] = false := by with_unfolding_all rfl) : DT X (.Compare a [.Lt, .LtE] [b, c] pos) (mTest (mChain fLt fLe ma mb mc)) := (pt_chain op_lt op_le ha hb hc hm).imp fun _ _ _ h => tV_chain (tT_test h)

/-! ### arguments, displays -/
def mNil : MA := fun _ S => some ([], S)
def mCons (ma : ME) (mr : MA) : MA := fun η S => (ma η S).bind fun p => (mr η p.2).map fun q => (p.1 :: q.1, q.2)
theorem da_nil : DA X [] mNil := pa_nil.imp fun σ H Q ⟨β, η, S, ws, S', R, e, q⟩ => by
  cases e
  exact q [] H Keep.refl R.cells ⟨[], .nil, List.nodup_nil, (fun _ h => by cases h), R.cells⟩
theorem RrN.keepA {K : PySem.W.Frag} {β β' : Ad} {H H' : Hp} (c : CellL β H) (k : Keep β H H') (sub : ∀ a ∈ β'.al, a ∈ β.al ∨ H a = none) (ce : β'.ce = β.ce) {vs : List V} {ws : List W} {ns : List Addr} (r : RrN K β H vs ws ns) (hn : ∀ a ∈ ns, a ∉ β.ce) : RrN K β' H' vs ws ns := by
  induction r with
  | nil => exact .nil
  | val h _ ih => exact .val (h.keep c k sub (by rw [ce]; exact List.prefix_refl _)) (ih hn)
  | new h1 h2 _ ih => exact .new ((k _ _ h1).elim (fun z => absurd z (hn _ List.mem_cons_self)) id) (h2.keep c k sub) (ih fun a ha => hn a (List.mem_cons_of_mem _ ha))
theorem RrA.mkVal {K : PySem.W.Frag} {β : Ad} {S1 S2 : Sto} {H0 H1 H2 : Hp} {v : V} {w : W} {vs : List V} {ws : List W} (c1 : Cells K β S1 H1) (k0 : Keep β H0 H1) (r1 : Rw K β H1 v w) (k : Keep β H1 H2)
    (r2 : RrA K β S2 H1 H2 vs ws) : RrA K β S2 H0 H2 (v :: vs) (w :: ws) := by
  obtain ⟨ns, r, nd, fr, c⟩ := r2
  refine ⟨ns, .val (r1.keep c1.cl k (fun a ha => ?_) (List.prefix_refl _)) r, nd, fun a ha => k0.free c1.cl (fr a ha), c⟩
  rcases List.mem_append.mp ha with h | h
  · exact .inr (fr a h)
  · exact .inl h
theorem RrA.mkNew {K : PySem.W.Frag} {β : Ad} {S1 S2 : Sto} {H0 H1 H2 : Hp} {v : V} {a : Addr} {xs : List V} {ds : List D} {vs : List V} {ws : List W} (c0 : CellL β H0) (c1 : Cells K β S1 H1) (k0 : Keep β H0 H1)
    (n : H0 a = none) (q : H1 a = some (.lst xs)) (r : BpA K (β.av a) H1 xs ds) (ca : Cells K (β.av a) S1 H1) (k : Keep β H1 H2) (r2 : RrA K (β.av a) S2 H1 H2 vs ws) (ev : v = .ref a) : RrA K β S2 H0 H2 (v :: vs) (.new ds :: ws) := by
  subst ev
  have na : a ∉ β.al := notin_of c0 n
  obtain ⟨ns, rr, nd, fr, c⟩ := r2
  have q2 : H2 a = some (.lst xs) := (k _ _ q).elim (fun z => absurd (c0.1 a z) na) id
  have sub : ∀ b ∈ (β.avs (a :: ns)).al, b ∈ ((β.av a).avs ns).al := fun b hb => by
    rcases List.mem_append.mp hb with h | h
    · rcases List.mem_cons.mp h with e | h
      · subst e; exact List.mem_append_right _ List.mem_cons_self
      · exact List.mem_append_left _ h
    · exact List.mem_append_right _ (List.mem_cons_of_mem _ h)
  have sub' : ∀ b ∈ ((β.av a).avs ns).al, b ∈ (β.avs (a :: ns)).al := fun b hb => by
    rcases List.mem_append.mp hb with h | h
    · exact List.mem_append_left _ (List.mem_cons_of_mem _ h)
    · rcases List.mem_cons.mp h with e | h
      · subst e; exact List.mem_append_left _ List.mem_cons_self
      · exact List.mem_append_right _ h
  have cl' : CellL (β.avs (a :: ns)) H2 := ⟨fun b hb => sub' b (c.cl.1 b hb), fun b hb => c.cl.2 b (sub b hb)⟩
  refine ⟨a :: ns, .new q2 ?_ (rr.keepA c.cl Keep.refl (fun b hb => .inl (sub b hb)) rfl fun b hb z => ?_), List.nodup_cons.mpr ⟨fun z => ?_, nd⟩, fun b hb => ?_, ?_⟩
  · refine r.keep ca.cl k fun b hb => ?_
    rcases List.mem_append.mp hb with h | h
    · rcases List.mem_cons.mp h with e | h
      · subst e; exact .inl List.mem_cons_self
      · exact .inr (fr b h)
    · exact .inl (List.mem_cons_of_mem _ h)
  · obtain ⟨ys, e⟩ := ca.cl.2 b (ca.cl.1 b z)
    rw [fr b hb] at e; cases e
  · have e := fr a z
    rw [q] at e; cases e
  · rcases List.mem_cons.mp hb with e | h
    · subst e; exact n
    · exact k0.free c1.cl (fr b h)
  · exact c.same (fun _ _ h => h) (fun b hb => .inl (sub b hb)) cl' rfl
theorem SR.avoid {K : PySem.W.Frag} {β β' : Ad} {η : Env} {S S1 : Sto} {σ : L2.St} {H H1 : Hp} (R : SR K β η S σ H) (k : Keep β H H1) (ce : β'.ce = β.ce) (sub : ∀ a ∈ β'.al, a ∈ β.al ∨ H a = none) (c : Cells K β' S1 H1) : SR K β' η S1 σ H1 :=
  ⟨c, R.len, fun i w e => let ⟨v, e1, q⟩ := R.env i w e; ⟨v, e1, q.keep R.cl k sub (by rw [ce]; exact List.prefix_refl _)⟩⟩
theorem Keep.ce {β β' : Ad} {H H' : Hp} (k : Keep β H H') (ce : β'.ce = β.ce) : Keep β' H H' := fun a o e => by rw [ce]; exact k a o e
theorem Cells.sub {K : PySem.W.Frag} {β β' : Ad} {S : Sto} {H : Hp} (c : Cells K β' S H) (ce : β'.ce = β.ce) (sub : ∀ a ∈ β.al, a ∈ β'.al) (cl : CellL β H) : Cells K β S H := c.same (fun _ _ h => h) (fun b hb => .inl (sub b hb)) cl ce.symm
theorem tVs_cons {K : PySem.W.Frag} {ma : ME} {mr : MA} {σ : L2.St} {H : Hp} {Q : List V → Hp → Prop} (h : tVs K (mCons ma mr) σ H Q) : tCons (tV K ma) (tVs K mr) σ H Q := by
  obtain ⟨β, η, S, ws, S', R, e, q⟩ := h
  unfold mCons at e
  cases e1 : ma η S with
  | none => rw [e1] at e; cases e
  | some p =>
    obtain ⟨w1, S1⟩ := p
    rw [e1] at e
    simp only [Option.bind_some] at e
    refine ⟨β, η, S, w1, S1, R, e1, fun v1 H1 k1 c1 r1 => ?_⟩
    cases e2 : mr η S1 with
    | none => rw [e2] at e; cases e
    | some p =>
      obtain ⟨w2, S2⟩ := p
      rw [e2] at e
      cases e
      -- the rest is run with the new list, if there is one, left alone
      cases w1 with
      | new ds =>
        obtain ⟨a, xs, ev, n, hq, r, ca⟩ := id r1
        refine ⟨β.av a, η, S1, w2, _, R.avoid k1 rfl (fun b hb => by
          rcases List.mem_cons.mp hb with e | hb
          · subst e; exact .inr n
          · exact .inl hb) ca, e2, fun v2 H2 k2 c2 r2 => ?_⟩
        have k2' : Keep β H1 H2 := k2
        have cl2 : CellL β H2 := ⟨R.cl.1, fun b hb => c2.cl.2 b (List.mem_cons_of_mem _ hb)⟩
        have c2' : Cells K β _ H2 := c2.sub rfl (fun b hb => List.mem_cons_of_mem _ hb) cl2
        refine q _ H2 (k1.trans k2') c2' ?_
        have na : a ∉ β.al := notin_of R.cl n
        obtain ⟨ns, rr, nd, fr, c⟩ := r2
        have q2 : H2 a = some (.lst xs) := (k2' _ _ hq).elim (fun z => absurd (R.cl.1 a z) na) id
        exact RrA.mkNew R.cl c1 k1 n hq r ca k2' ⟨ns, rr, nd, fr, c⟩ ev
      | dat d => exact ⟨β, η, S1, w2, _, R.keep k1 c1, e2, fun v2 H2 k2 c2 r2 => q _ H2 (k1.trans k2) c2 (RrA.mkVal c1 k1 (w := .dat d) r1 k2 r2)⟩
      | hd d => exact ⟨β, η, S1, w2, _, R.keep k1 c1, e2, fun v2 H2 k2 c2 r2 => q _ H2 (k1.trans k2) c2 (RrA.mkVal c1 k1 (w := .hd d) r1 k2 r2)⟩
      | frz d => exact ⟨β, η, S1, w2, _, R.keep k1 c1, e2, fun v2 H2 k2 c2 r2 => q _ H2 (k1.trans k2) c2 (RrA.mkVal c1 k1 (w := .frz d) r1 k2 r2)⟩
def items : List W → Option (List D)
  | [] => some []
  | w :: ws => (ditem w).bind fun d => (items ws).map fun ds => d :: ds
theorem da_cons {e : Expr} {es : List Expr} {mr : MA} (ha : DE X e ma) (hr : DA X es mr) (hs : starEach (e :: es) X.env = (false, eval e X.env) :: starEach es X.env := by rfl) : DA X (e :: es) (mCons ma mr) := (pa_cons ha hr hs).imp fun σ H Q h => tVs_cons h
theorem RvA.items {K : PySem.W.Frag} {β : Ad} {H : Hp} {vs : List V} {ws : List W} (h : RvA K β H vs ws) : ∀ {ds : List D}, BV.items ws = some ds → BpA K β H vs ds := by
  induction h with
  | nil => intro ds e; cases e; exact .nil
  | @cons v vs w ws r _ ih =>
    intro ds e
    unfold BV.items at e
    cases e1 : ditem w with
    | none => rw [e1] at e; cases e
    | some d =>
      rw [e1] at e
      cases e2 : BV.items ws with
      | none => rw [e2] at e; cases e
      | some es =>
        rw [e2] at e
        cases e
        exact .cons (r.item e1) (ih e2)
def mTup (m : MA) : ME := fun η S => (m η S).bind fun p => (items p.1).bind fun ds => if ds.length ≤ sizeLine then some (.dat (.tuple ds), p.2) else none
def mLst (m : MA) : ME := fun η S => (m η S).bind fun p => (items p.1).bind fun ds => if ds.length ≤ sizeLine then some (.new ds, p.2) else none
theorem tVs_bind {K : PySem.W.Frag} {m : MA} {g : List W → Sto → Option (W × Sto)} {σ : L2.St} {H : Hp} {Q : VK} (h : tV K (fun η S => (m η S).bind fun p => g p.1 p.2) σ H Q)
    (T : List V → Hp → Prop) (hT : ∀ β S ws vs H1 w S', Cells K β S H1 → RvA K β H1 vs ws → g ws S = some (w, S') → Then K β S' H1 w Q → T vs H1) : tVs K m σ H T := by
  obtain ⟨β, η, S, w, S', R, e, q⟩ := h
  dsimp only at e
  cases e1 : m η S with
  | none => rw [e1] at e; cases e
  | some p =>
    obtain ⟨ws, S1⟩ := p
    rw [e1] at e
    exact ⟨β, η, S, ws, S1, R, e1, fun vs H1 k1 c1 r1 => hT β S1 ws vs H1 w S' c1 (r1.rva R.cl) e fun v H2 k2 c2 r2 => q v H2 (k1.trans k2) c2 (r2.back c1.cl k1)⟩
theorem de_tup {es : List Expr} {m : MA} {x1} (h : DA X es m) : DE X (.Tuple es x1 pos) (mTup m) := (pe_tup h).imp fun σ H Q hq => by
  refine tVs_bind (g := fun ws S => (items ws).bind fun ds => if ds.length ≤ sizeLine then some (.dat (.tuple ds), S) else none) hq _ fun β S ws vs H1 w S' c r e q => ?_
  cases e1 : items ws with
  | none => rw [e1] at e; cases e
  | some ds =>
    rw [e1] at e
    simp only [Option.bind_some] at e
    split at e
    · rename_i hz
      cases e
      have r := r.items e1
      exact ⟨by rw [r.len]; exact hz, fun p hp => q.tup c r hp⟩
    · cases e
theorem de_lst {es : List Expr} {m : MA} (h : DA X es m) : DE X (.List es pos) (mLst m) := (pe_lst h).imp fun σ H Q hq => by
  refine tVs_bind (g := fun ws S => (items ws).bind fun ds => if ds.length ≤ sizeLine then some (.new ds, S) else none) hq _ fun β S ws vs H1 w S' c r e q => ?_
  cases e1 : items ws with
  | none => rw [e1] at e; cases e
  | some ds =>
    rw [e1] at e
    simp only [Option.bind_some] at e
    split at e
    · rename_i hz
      cases e
      have r := r.items e1
      exact ⟨by rw [r.len]; exact hz, fun p hp => q.new c r hp⟩
    · cases e

/-! ### slices -/
def mSl (f : W → Option Int → Option Int → Sto → Option W) (ma : ME) (lo hi : Option ME) : ME := fun η S => (ma η S).bind fun p =>
  (match lo with | none => some (none, p.2) | some m => (m η p.2).bind fun q => (iview q.1).map fun i => (some i, q.2)).bind fun l =>
  (match hi with | none => some (none, l.2) | some m => (m η l.2).bind fun q => (iview q.1).map fun i => (some i, q.2)).bind fun h => (f p.1 l.1 h.1 h.2).map fun w => (w, h.2)
def cutD (xs : List D) (lo hi : Option Int) : List D := (xs.drop (HT.sIx xs.length 0 lo)).take (HT.sIx xs.length xs.length hi - HT.sIx xs.length 0 lo)
def fSl (w : W) (lo hi : Option Int) (S : Sto) : Option W := match w with
  | .dat (.list ds) => some (.new (cutD ds lo hi))
  | .new ds => some (.new (cutD ds lo hi))
  | .hd n => S[n]?.map fun ds => .new (cutD ds lo hi)
  | .frz ds => some (.new (cutD ds lo hi))
  | .dat (.tuple ds) => some (.dat (.tuple (cutD ds lo hi)))
  | .dat (.str x) => if x.length ≤ sizeLine then some (.dat (.str (cutS x lo hi))) else none
  | _ => none
theorem BpA.cut {K : PySem.W.Frag} {β : Ad} {H : Hp} {vs : List V} {ds : List D} (r : BpA K β H vs ds) (lo hi : Option Int) : BpA K β H (cutV vs lo hi) (cutD ds lo hi) := by
  unfold cutV cutD
  rw [r.len]
  exact (r.drop _).take _
theorem cut_whole {ds : List D} {lo hi : Option Int} (h : HT.sIx ds.length 0 lo = 0 ∧ HT.sIx ds.length ds.length hi = ds.length) : cutD ds lo hi = ds := by
  unfold cutD
  rw [h.1, h.2, List.drop_zero, Nat.sub_zero, List.take_length]
theorem sl_all : SlR X (fun x lo hi H Q => rSlL X.K x lo hi H Q ∨ rSlA X.K x lo hi H Q ∨ rSlS x lo hi H Q) := sl_list.or (sl_tupA.or sl_str)
theorem fSl_ok {K : PySem.W.Frag} {β : Ad} {S : Sto} {H : Hp} {v : V} {w w' : W} {lo hi : Option Int} {Q : VK} (c : Cells K β S H) (r : Rv K β H v w) (e : fSl w lo hi S = some w') (q : Then K β S H w' Q) : rSlL K v lo hi H Q ∨ rSlA K v lo hi H Q ∨ rSlS v lo hi H Q := by
  have viaL : ∀ ds : List D, lview S w = some ds → w' = .new (cutD ds lo hi) → rSlL K v lo hi H Q := fun ds e1 e2 => by
    obtain ⟨a, xs, rfl, hs, r⟩ := r.list c e1
    subst e2
    exact ⟨a, xs, rfl, SqL.of hs, fun p hp => q.new c (r.cut lo hi) hp⟩
  cases w with
  | dat d =>
    cases d with
    | list es => exact .inl (viaL es rfl (Option.some.inj e).symm)
    | tuple es =>
      obtain ⟨a, xs, rfl, hs, r⟩ := r.tuple (ds := es) rfl
      cases e
      refine .inr (.inl ⟨a, xs, rfl, hs, fun hw => ?_, fun _ p hp => q.tup c (r.cut lo hi) hp⟩)
      rw [r.len] at hw
      rw [cut_whole hw] at q
      exact q _ H Keep.refl c (.tup hs r)
    | str x =>
      replace e : (if x.length ≤ sizeLine then some (W.dat (.str (cutS x lo hi))) else none) = some w' := e
      split at e
      · rename_i h
        cases e
        exact .inr (.inr ⟨x, r.str rfl, h, q.str c⟩)
      · cases e
    | none => cases e
    | bool _ => cases e
    | int _ => cases e
    | dict _ => cases e
  | new es => exact .inl (viaL es rfl (Option.some.inj e).symm)
  | hd n =>
    cases e1 : S[n]? with
    | none => rw [fSl, e1] at e; cases e
    | some ds => rw [fSl, e1] at e; exact .inl (viaL ds e1 (Option.some.inj e).symm)
  | frz es =>
    cases e
    obtain ⟨a, xs, rfl, h1, h2⟩ := r
    exact .inl ⟨a, xs, rfl, h1.sq, fun p hp => q.new c (h2.cut lo hi) hp⟩
end

end BV
set_option Elab.async false
set_option linter.all false
set_option maxRecDepth 100000
namespace BV
open PySem PySem.Spec PyProof.Rows L2

/-! ### defs that ask that no repr is under way -/
structure FnG (P : Program) (w : World) (K : PySem.W.Frag) (mg : Str → Option Value) (base : Heap) (CX : CXT) (k : Nat) (f : Addr) (fd : FuncData) (ps : List Str) (sp : Sp) : Prop where
  len : ∀ (vs : List V) (H : Hp) (Q : VK) (E : XK), sp vs H Q E → vs.length = ps.length
  run : ∀ (A : Around) (outer : List PySem.Env) (s : Shared) (H : Hp) (args : Args) (us : List Value) (vs : List V) (Q : VK) (E : XK), A.guards = some [] → Room k A → Env0 P w K mg base A outer s H → BindsTo s fd args (ps.zip us) → Vals vs us → sp vs H Q E → codeAny (model P w) A (Code.call (.ref f) args) (CR CX outer P w H s Q E) s
theorem FnG.mono {P : Program} {w : World} {K : PySem.W.Frag} {mg : Str → Option Value} {base : Heap} {CX : CXT} {j k : Nat} {f : Addr} {fd : FuncData} {ps : List Str} {sp : Sp} (F : FnG P w K mg base CX j f fd ps sp) (h : j ≤ k) : FnG P w K mg base CX k f fd ps sp :=
  ⟨F.len, fun A outer s H args us vs Q E hg hr => F.run A outer s H args us vs Q E hg (Room.mono hr h)⟩
theorem run_fnG {X : Cx} {CX : CXT} {k : Nat} {f : Addr} {fd : FuncData} {ps : List Str} {sp : Sp} {dvs : List V} {ds : List Value} {E : XK} {pins : List (Addr × Obj)} {σ : L2.St} {H : Hp} {s : Shared} {Q : VK} {us : List Value} {vs : List V}
    (F : FnG X.prog X.w X.K X.mg X.base CX k f fd ps sp) (hG : X.A.guards = some []) (hr : Room k X.A) (hb : Binds X.K fd ps ds) (hd : Vals dvs ds) (hx : Passes CX X E) (I : Inv X pins σ H s) (r : Vals vs us) (h : sp (vs ++ dvs) H Q E) : wpAny (model X.prog X.w) X.A (call (.ref f) us) (EP X pins σ Q) X.xe s := by
  have r2 := Vals.append r hd
  have hl : (us ++ ds).length = ps.length := by rw [← Vals.length r2]; exact F.len _ H Q E h
  refine wpAny_call (codeAny_mono (F.run X.A X.stack s H ⟨us, []⟩ (us ++ ds) (vs ++ dvs) Q E hG hr (Inv.env0 I) (hb s us (Inv.kIn I) hl) r2 h) fun r s' hq => ?_)
  rcases r with e | fl
  · exact hx pins σ H s e s' I hq
  · cases fl with
    | ret u => exact Inv.after I hq
    | _ => exact hq.elim
theorem pe_callG {X : Cx} {CX : CXT} {k : Nat} {f : Addr} {fd : FuncData} {ps : List Str} {sp : Sp} {dvs : List V} {ds : List Value} {E : XK} {x : Str} {p pos : Pos} {e : Expr} {es : List Expr} {t : TA}
    (F : FnG X.prog X.w X.K X.mg X.base CX k f fd ps sp) (hG : X.A.guards = some []) (hr : Room k X.A) (hg : Gl X x) (hm : X.mg x = some (.ref f)) (hk : PySem.W.keepIn X.K (.ref f) = true) (hb : Binds X.K fd ps ds) (hd : Vals dvs ds) (hx : Passes CX X E) (ha : PA X (e :: es) t)
    (hdb : (x == ("__debug__" : Str)) = false) (he : starEach (e :: es) X.env = (false, eval e X.env) :: starEach es X.env) (hpl : (backTo pos (starEach es X.env)).any (·.1) = false) : PE X (.Call (.Name x p) (e :: es) [] pos) (tCall sp dvs E t) :=
  ⟨fun pins s σ H Q I h => wpAny_Call_Name_kw (ld_glob I hg hm (PySem.W.callWith_K I.ok.mod.kin hk (thn (ha.run pos pins s σ H (fun vs H1 => sp (vs ++ dvs) H1 Q E) I h) fun us s1 x =>
    match x with
    | ⟨vs, H1, I1, r, q⟩ => ⟨Inv.kIn I1, run_fnG F hG hr hb hd hx I1 r q⟩) he hpl) hdb)⟩
theorem fn_ofG {P : Program} {w : World} {K : PySem.W.Frag} {mg : Str → Option Value} {base : Heap} {k : Nat} {CX : CXT} {f : Addr} {name qual : Str} {params : Arguments} {body : List Stmt} {scope : Scope} {dV kV doc pm cdv ct oc : Value} {an od : Option Addr} {osl : Array (Option Value)} {N ps : List Str} {sp : Sp}
    (lk : K.lookup f = some ⟨oc, od, .func (PySem.W.fnOf name qual params body scope dV kV doc pm an cdv ct), osl⟩) (hcd : PySem.W.codeIn K cdv qual = true) (S : FnScope N ps scope) (len : ∀ (vs : List V) (H : Hp) (Q : VK) (E : XK), sp vs H Q E → vs.length = ps.length)
    (hbody : ∀ (A : Around) (outer : List PySem.Env) (s : Shared) (H : Hp) (vs : List V) (Q : VK) (E : XK), A.guards = some [] → Room k (A.deeper (envOfC qual scope s.heap.objs.size f cdv)) → sp vs H Q E → ∃ t, PSs (cxOf CX P w K mg base N qual scope f cdv A outer s H E) body t ∧ t { nx := fun _ H' => Q .non H', rt := Q } (L2.start N vs) H) :
    FnG P w K mg base CX (k + 1) f (PySem.W.fnOf name qual params body scope dV kV doc pm an cdv ct) ps sp := by
  refine ⟨len, fun A outer s H args us vs Q E hG hr e0 hb r hsp => ?_⟩
  have hl := len vs H Q E hsp
  have KX := PySem.W.Frag.In.keeps e0.mod.kin fun b o e => (e0.bs b o e).1
  have lim := Heap.NoLimit.keeps e0.mod.nolimit fun b o e => (e0.bs b o e).1
  have hkind : ∀ y ∈ ps.zip us, scope.names.lookup y.1 = some .local ∨ (scope.names.lookup y.1 = some .cell ∧ ((cellsFrom (s.heap.objs.size + 1) scope.names []).lookup y.1).isSome = true) := fun y hy => (S.par y.1 (List.of_mem_zip (b := y.2) hy).1).elim (fun q => Or.inl q) fun q => Or.inr ⟨q, PySem.W.cellsFrom_some scope.names (s.heap.objs.size + 1) [] (Or.inl q)⟩
  refine codeAny_call_function (Room.depth hr) (KX f _ lk) rfl S.co S.gen rfl (PySem.W.codeRec_of KX hcd) (hb (model P w) A.in1 (fun e s' => CR CX outer P w H s Q E (.error e) s') _ (wpAny_newFunctionEnv_cells S.kind hkind fun env he s1 x => ?_))
  subst he
  refine ⟨Heap.NoLimit.keeps lim x.toInCall.keep, codeAny_func ?_⟩
  obtain ⟨t, ht, hq⟩ := hbody A outer s H vs Q E hG (Room.deeper hr (envOfC qual scope s.heap.objs.size f cdv)) hsp
  have I : Inv (cxOf CX P w K mg base N qual scope f cdv A outer s H E) [] (L2.start N vs) H s1 := inv_start S hr.hd e0 hl r x
  refine wpAny_mono (ht.run [] s1 (L2.start N vs) H { nx := fun _ H' => Q .non H', rt := Q } I hq) (fun fl s' hs => ?_) fun e s' hs => hs
  cases fl with
  | next =>
    obtain ⟨σ', H', J, q⟩ := hs
    exact ⟨.non, H', J.os, J.bare, J.base, J.hok, rfl, q⟩
  | ret u =>
    obtain ⟨v, σ', H', J, rv, q⟩ := hs
    exact ⟨v, H', J.os, J.bare, J.base, J.hok, rv, q⟩
  | _ =>
    obtain ⟨_, _, _, q⟩ := hs
    exact q.elim
theorem _root_.L2.Fun.okG {P : Program} {w : World} {K : PySem.W.Frag} {mg : Str → Option Value} {base : Heap} {x qual : Str} {st : Stmt} {f : Addr} {fd : FuncData} {N ps : List Str} {k : Nat} {sp : Sp}
    (F : Fun K x qual st f fd) (S : FnScope N ps (defScope st)) (len : ∀ (vs : List V) (H : Hp) (Q : VK) (E : XK), sp vs H Q E → vs.length = ps.length)
    (hbody : ∀ (cdv : Value) (A : Around) (outer : List PySem.Env) (s : Shared) (H : Hp) (vs : List V) (Q : VK) (E : XK), A.guards = some [] → Room k (A.deeper (envOfC qual (defScope st) s.heap.objs.size f cdv)) → sp vs H Q E → ∃ t, PSs (cxOf CX0 P w K mg base N qual (defScope st) f cdv A outer s H E).nox (defBody st) t ∧ t { nx := fun _ H' => Q .non H', rt := Q } (L2.start N vs) H) :
    FnG P w K mg base CX0 (k + 1) f fd ps sp := by
  obtain ⟨oc, od, kV, doc, pm, an, cdv, ct, osl, rfl, lk, hcd⟩ := F.ex
  exact fn_ofG lk hcd S len fun A outer s H vs Q E hG hr hsp =>
    let ⟨t, h, q⟩ := hbody cdv A outer s H vs Q E hG hr hsp
    ⟨t, PSs.nox h, q⟩
end BV
set_option Elab.async false
set_option linter.all false
set_option maxRecDepth 100000
namespace BV
open PySem PySem.Spec PyProof.Rows L2

/-! ### calls of what is built in -/
def MeetsC (K : PySem.W.Frag) (r : List V → Hp → VK → Prop) (f : Sto → List W → Option W) : Prop :=
  ∀ (β : Ad) (S : Sto) (H : Hp) (vs : List V) (ws : List W) (w : W) (Q : VK), Cells K β S H → RvA K β H vs ws → f S ws = some w → Then K β S H w Q → r vs H Q
def mCall (f : Sto → List W → Option W) (m : MA) : ME := fun η S => (m η S).bind fun p => (f p.2 p.1).map fun w => (w, p.2)
section
variable {X : Cx} {e : Expr} {es : List Expr} {m : MA} {id T : String} {r : List V → Hp → VK → Prop} {f : Sto → List W → Option W} {x : Str} {p pos : Pos}
theorem tV_call {K : PySem.W.Frag} {σ : L2.St} {H : Hp} {Q : VK} (hf : MeetsC K r f) (h : tV K (mCall f m) σ H Q) : tVs K m σ H fun vs H1 => r vs H1 Q := by
  refine tVs_bind (g := fun ws S => (f S ws).map fun w => (w, S)) h _ fun β S ws vs H1 w S' c r e q => ?_
  cases e1 : f S ws with
  | none => rw [e1] at e; cases e
  | some w1 => rw [e1] at e; cases e; exact hf β _ H1 vs ws _ Q c r e1 q
theorem de_callB (hc : CallR X (.builtin id) r) (hf : MeetsC X.K r f) (hg : Gl X x) (hm : X.mg x = none) (hv : bootBuiltins x = some (.builtin id)) (ha : DA X (e :: es) m) (hn : x ≠ "__name__" := by decide) (hdb : (x == ("__debug__" : Str)) = false := by decide)
    (he : starEach (e :: es) X.env = (false, eval e X.env) :: starEach es X.env := by rfl) (hpl : (backTo pos (starEach es X.env)).any (·.1) = false := by rfl) : DE X (.Call (.Name x p) (e :: es) [] pos) (mCall f m) :=
  (pe_callB hc hg hm hv ha hn hdb he hpl).imp fun _ _ _ h => tV_call hf h
theorem de_callTy (hc : CallR X (.type T) r) (hf : MeetsC X.K r f) (hg : Gl X x) (hm : X.mg x = none) (hv : bootBuiltins x = some (.type T)) (ha : DA X (e :: es) m) (hn : x ≠ "__name__" := by decide) (hdb : (x == ("__debug__" : Str)) = false := by decide)
    (he : starEach (e :: es) X.env = (false, eval e X.env) :: starEach es X.env := by rfl) (hpl : (backTo pos (starEach es X.env)).any (·.1) = false := by rfl) : DE X (.Call (.Name x p) (e :: es) [] pos) (mCall f m) :=
  (pe_callTy hc hg hm hv ha hn hdb he hpl).imp fun _ _ _ h => tV_call hf h
end
section
variable {K : PySem.W.Frag}
theorem RvA.one {β : Ad} {H : Hp} {vs : List V} {w : W} (h : RvA K β H vs [w]) : ∃ v, vs = [v] ∧ Rv K β H v w := by
  cases h with
  | cons a t => cases t; exact ⟨_, rfl, a⟩
theorem RvA.two {β : Ad} {H : Hp} {vs : List V} {w u : W} (h : RvA K β H vs [w, u]) : ∃ v z, vs = [v, z] ∧ Rv K β H v w ∧ Rv K β H z u := by
  cases h with
  | cons a t => cases t with
    | cons b t => cases t; exact ⟨_, _, rfl, a, b⟩
def fLen : Sto → List W → Option W := fun S ws => match ws with
  | [w] => match seqview S w with
    | some ds => some (.dat (.int ds.length))
    | none => match strview w with
      | some z => if z.length ≤ sizeLine then some (.dat (.int z.length)) else none
      | none => none
  | _ => none
theorem meets_len : MeetsC K (fun xs H Q => ∃ x n, xs = [x] ∧ LenV K x H n ∧ Q (.int n) H) fLen := by
  intro β S H vs ws w Q c r e q
  unfold fLen at e
  split at e
  · rename_i w1
    obtain ⟨v, rfl, rv⟩ := r.one
    split at e
    · rename_i ds hs
      cases e
      obtain ⟨a, xs, rfl, hs, rr⟩ := rv.seq c hs
      refine ⟨_, ds.length, rfl, ?_, q.int c⟩
      rcases hs with hs | hs
      · exact .inl ⟨xs, hs, rr.len.symm⟩
      · exact .inr ⟨xs, hs, rr.len.symm⟩
    · split at e
      · rename_i z hz
        split at e
        · rename_i hl
          cases e
          have ev := rv.str hz
          subst ev
          exact ⟨_, z.length, rfl, ⟨hl, rfl⟩, q.int c⟩
        · cases e
      · cases e
  · cases e
def f1I (g : Int → D) : Sto → List W → Option W := fun _ ws => match ws with
  | [w] => (iview w).map fun i => .dat (g i)
  | _ => none
def f2Is (g : Int → Int → D) : Sto → List W → Option W := fun _ ws => match ws with
  | [w, u] => (iview w).bind fun i => (iview u).map fun j => .dat (g i j)
  | _ => none
theorem f1I_inv {g : Int → D} {S : Sto} {ws : List W} {w : W} (e : f1I g S ws = some w) : ∃ u i, ws = [u] ∧ iview u = some i ∧ w = .dat (g i) := by
  unfold f1I at e
  split at e
  · rename_i u
    cases h : iview u with
    | none => rw [h] at e; cases e
    | some i => rw [h] at e; cases e; exact ⟨u, i, rfl, h, rfl⟩
  · cases e
theorem f2Is_inv {g : Int → Int → D} {S : Sto} {ws : List W} {w : W} (e : f2Is g S ws = some w) : ∃ u z i j, ws = [u, z] ∧ iview u = some i ∧ iview z = some j ∧ w = .dat (g i j) := by
  unfold f2Is at e
  split at e
  · rename_i u z
    cases h : iview u with
    | none => rw [h] at e; cases e
    | some i =>
      rw [h] at e
      cases h' : iview z with
      | none => rw [h'] at e; cases e
      | some j => rw [h'] at e; cases e; exact ⟨u, z, i, j, rfl, h, h', rfl⟩
  · cases e
def fAbs := f1I fun i => .int (if i < 0 then -i else i)
theorem meets_abs : MeetsC K (fun xs H Q => ∃ i, xs = [.int i] ∧ Q (.int (if i < 0 then -i else i)) H) fAbs := by
  intro β S H vs ws w Q c r e q
  obtain ⟨u, i, rfl, hu, rfl⟩ := f1I_inv e
  obtain ⟨v, rfl, rv⟩ := r.one
  have ev := rv.int hu
  subst ev
  exact ⟨i, rfl, q.int c⟩
def fMax := f2Is fun i j => .int (if j > i then j else i)
def fMin := f2Is fun i j => .int (if j < i then j else i)
theorem meets_max : MeetsC K (fun xs H Q => ∃ i j, xs = [.int i, .int j] ∧ Q (.int (if j > i then j else i)) H) fMax := by
  intro β S H vs ws w Q c r e q
  obtain ⟨u, z, i, j, rfl, hu, hz, rfl⟩ := f2Is_inv e
  obtain ⟨v, v', rfl, rv, rv'⟩ := r.two
  have ev := rv.int hu
  have ev' := rv'.int hz
  subst ev ev'
  exact ⟨i, j, rfl, q.int c⟩
theorem meets_min : MeetsC K (fun xs H Q => ∃ i j, xs = [.int i, .int j] ∧ Q (.int (if j < i then j else i)) H) fMin := by
  intro β S H vs ws w Q c r e q
  obtain ⟨u, z, i, j, rfl, hu, hz, rfl⟩ := f2Is_inv e
  obtain ⟨v, v', rfl, rv, rv'⟩ := r.two
  have ev := rv.int hu
  have ev' := rv'.int hz
  subst ev ev'
  exact ⟨i, j, rfl, q.int c⟩
/-- int(n), int(flag) -/
def fInt : Sto → List W → Option W := fun _ ws => match ws with
  | [.dat (.int i)] => some (.dat (.int i))
  | [.dat (.bool b)] => some (.dat (.int (if b then 1 else 0)))
  | _ => none
theorem meets_int : MeetsC K (fun xs H Q => (∃ i, xs = [.int i] ∧ Q (.int i) H) ∨ ∃ k, xs = [.bl k] ∧ Q (.int (if k then 1 else 0)) H) fInt := by
  intro β S H vs ws w Q c r e q
  unfold fInt at e
  split at e
  · cases e
    obtain ⟨v, rfl, rv⟩ := r.one
    have ev := rv.int rfl
    subst ev
    exact .inl ⟨_, rfl, q.int c⟩
  · cases e
    obtain ⟨v, rfl, rv⟩ := r.one
    have ev := rv.bool rfl
    subst ev
    exact .inr ⟨_, rfl, q.int c⟩
  · cases e
/-- tuple(xs), list(xs) -/
def fTupOf : Sto → List W → Option W := fun S ws => match ws with
  | [w] => (seqview S w).map fun ds => .dat (.tuple ds)
  | _ => none
theorem meets_tupOf : MeetsC K (fun xs H Q => ∃ p ys, xs = [.ref p] ∧ ((SqL K H p ys ∧ ∀ l, H l = none → Q (.ref l) (L2.upd H l (.tup ys))) ∨ (SqT K H p ys ∧ Q (.ref p) H))) fTupOf := by
  intro β S H vs ws w Q c r e q
  unfold fTupOf at e
  split at e
  · rename_i w1
    obtain ⟨v, rfl, rv⟩ := r.one
    cases h : seqview S w1 with
    | none => rw [h] at e; cases e
    | some ds =>
      rw [h] at e
      cases e
      obtain ⟨a, xs, rfl, hs, rr⟩ := rv.seq c h
      refine ⟨a, xs, rfl, ?_⟩
      rcases hs with hs | hs
      · exact .inl ⟨hs, fun l hl => q.tup c rr hl⟩
      · exact .inr ⟨hs, q _ H Keep.refl c (.tup hs rr)⟩
  · cases e
def fLstOf : Sto → List W → Option W := fun S ws => match ws with
  | [w] => (seqview S w).map fun ds => .new ds
  | _ => none
theorem meets_lstOf : MeetsC K (fun xs H Q => ∃ p ys, xs = [.ref p] ∧ (SqL K H p ys ∨ SqT K H p ys) ∧ ∀ l, H l = none → Q (.ref l) (L2.upd H l (.lst ys))) fLstOf := by
  intro β S H vs ws w Q c r e q
  unfold fLstOf at e
  split at e
  · rename_i w1
    obtain ⟨v, rfl, rv⟩ := r.one
    cases h : seqview S w1 with
    | none => rw [h] at e; cases e
    | some ds =>
      rw [h] at e
      cases e
      obtain ⟨a, xs, rfl, hs, rr⟩ := rv.seq c h
      exact ⟨a, xs, rfl, hs, fun l hl => q.new c rr hl⟩
  · cases e
/-- all(bools), any(bools), sum(ints) of a list -/
def bools : List D → Option (List Bool)
  | [] => some []
  | .bool b :: ds => (bools ds).map fun bs => b :: bs
  | _ => none
def intsD : List D → Option (List Int)
  | [] => some []
  | .int b :: ds => (intsD ds).map fun bs => b :: bs
  | _ => none
theorem bools_ok {β : Ad} {H : Hp} : ∀ {vs : List V} {ds : List D} {bs : List Bool}, BpA K β H vs ds → bools ds = some bs → vs = bs.map V.bl
  | _, _, _, .nil, e => by cases e; rfl
  | _, d :: ds, bs, .cons h r, e => by
    cases d with
    | bool b =>
      replace e : (bools ds).map (fun bs => b :: bs) = some bs := e
      cases e1 : bools ds with
      | none => rw [e1] at e; cases e
      | some cs => rw [e1] at e; cases e; cases h; rw [bools_ok r e1]; rfl
    | _ => cases e
theorem intsD_ok {β : Ad} {H : Hp} : ∀ {vs : List V} {ds : List D} {bs : List Int}, BpA K β H vs ds → intsD ds = some bs → vs = bs.map V.int
  | _, _, _, .nil, e => by cases e; rfl
  | _, d :: ds, bs, .cons h r, e => by
    cases d with
    | int b =>
      replace e : (intsD ds).map (fun bs => b :: bs) = some bs := e
      cases e1 : intsD ds with
      | none => rw [e1] at e; cases e
      | some cs => rw [e1] at e; cases e; cases h; rw [intsD_ok r e1]; rfl
    | _ => cases e
def fAll (g : List Bool → Bool) : Sto → List W → Option W := fun S ws => match ws with
  | [w] => (lview S w).bind fun ds => (bools ds).map fun bs => .dat (.bool (g bs))
  | _ => none
theorem meets_all {g : List Bool → Bool} : MeetsC K (fun vs H Q => ∃ (a : Addr) (bs : List Bool), vs = [V.ref a] ∧ SqL K H a (bs.map V.bl) ∧ Q (.bl (g bs)) H) (fAll g) := by
  intro β S H vs ws w Q c r e q
  unfold fAll at e
  split at e
  · rename_i w1
    obtain ⟨v, rfl, rv⟩ := r.one
    cases h : lview S w1 with
    | none => rw [h] at e; cases e
    | some ds =>
      rw [h] at e
      replace e : (bools ds).map (fun bs => W.dat (.bool (g bs))) = some w := e
      cases h2 : bools ds with
      | none => rw [h2] at e; cases e
      | some bs =>
        rw [h2] at e
        cases e
        obtain ⟨a, xs, rfl, hs, rr⟩ := rv.list c h
        have ex := bools_ok rr h2
        subst ex
        exact ⟨a, bs, rfl, SqL.of hs, q.bool c⟩
  · cases e
def fSum : Sto → List W → Option W := fun S ws => match ws with
  | [w] => (lview S w).bind fun ds => (intsD ds).map fun bs => .dat (.int bs.sum)
  | _ => none
theorem meets_sum : MeetsC K (rSum K) fSum := by
  intro β S H vs ws w Q c r e q
  unfold fSum at e
  split at e
  · rename_i w1
    obtain ⟨v, rfl, rv⟩ := r.one
    cases h : lview S w1 with
    | none => rw [h] at e; cases e
    | some ds =>
      rw [h] at e
      replace e : (intsD ds).map (fun bs => W.dat (.int bs.sum)) = some w := e
      cases h2 : intsD ds with
      | none => rw [h2] at e; cases e
      | some bs =>
        rw [h2] at e
        cases e
        obtain ⟨a, xs, rfl, hs, rr⟩ := rv.list c h
        have ex := intsD_ok rr h2
        subst ex
        exact ⟨a, bs, rfl, SqL.of hs, q.int c⟩
  · cases e
end
section
variable {X : Cx} {e : Expr} {es : List Expr} {m : MA} {p pos : Pos}
theorem de_len (hg : Gl X "len") (hm : X.mg "len" = none) (ha : DA X [e] m) (he : starEach [e] X.env = (false, eval e X.env) :: starEach [] X.env := by rfl) : DE X (.Call (.Name "len" p) [e] [] pos) (mCall fLen m) :=
  de_callB call_len meets_len hg hm PySem.boot_len ha (by decide) (by decide) he (by rfl)
theorem de_abs (hg : Gl X "abs") (hm : X.mg "abs" = none) (ha : DA X [e] m) (he : starEach [e] X.env = (false, eval e X.env) :: starEach [] X.env := by rfl) : DE X (.Call (.Name "abs" p) [e] [] pos) (mCall fAbs m) :=
  de_callB call_abs meets_abs hg hm (by decide +kernel) ha (by decide) (by decide) he (by rfl)
theorem de_max2 {e' : Expr} (hc : X.calm = true) (hg : Gl X "max") (hm : X.mg "max" = none) (ha : DA X [e, e'] m) (he : starEach [e, e'] X.env = (false, eval e X.env) :: starEach [e'] X.env := by rfl) (hpl : (backTo pos (starEach [e'] X.env)).any (·.1) = false := by rfl) : DE X (.Call (.Name "max" p) [e, e'] [] pos) (mCall fMax m) :=
  de_callB (call_max2 hc) meets_max hg hm (by decide +kernel) ha (by decide) (by decide) he hpl
theorem de_min2 {e' : Expr} (hc : X.calm = true) (hg : Gl X "min") (hm : X.mg "min" = none) (ha : DA X [e, e'] m) (he : starEach [e, e'] X.env = (false, eval e X.env) :: starEach [e'] X.env := by rfl) (hpl : (backTo pos (starEach [e'] X.env)).any (·.1) = false := by rfl) : DE X (.Call (.Name "min" p) [e, e'] [] pos) (mCall fMin m) :=
  de_callB (call_min2 hc) meets_min hg hm (by decide +kernel) ha (by decide) (by decide) he hpl
theorem de_int1 (hg : Gl X "int") (hm : X.mg "int" = none) (ha : DA X [e] m) (he : starEach [e] X.env = (false, eval e X.env) :: starEach [] X.env := by rfl) : DE X (.Call (.Name "int" p) [e] [] pos) (mCall fInt m) :=
  de_callTy call_int1 meets_int hg hm (by decide +kernel) ha (by decide) (by decide) he (by rfl)
theorem de_tupOf (hg : Gl X "tuple") (hm : X.mg "tuple" = none) (ha : DA X [e] m) (he : starEach [e] X.env = (false, eval e X.env) :: starEach [] X.env := by rfl) : DE X (.Call (.Name "tuple" p) [e] [] pos) (mCall fTupOf m) :=
  de_callTy call_tuple_of meets_tupOf hg hm (by decide +kernel) ha (by decide) (by decide) he (by rfl)
theorem de_lstOf (hg : Gl X "list") (hm : X.mg "list" = none) (ha : DA X [e] m) (he : starEach [e] X.env = (false, eval e X.env) :: starEach [] X.env := by rfl) : DE X (.Call (.Name "list" p) [e] [] pos) (mCall fLstOf m) :=
  de_callTy call_list_of meets_lstOf hg hm (by decide +kernel) ha (by decide) (by decide) he (by rfl)
theorem de_all (hc : X.calm = true) (hg : Gl X "all") (hm : X.mg "all" = none) (ha : DA X [e] m) (he : starEach [e] X.env = (false, eval e X.env) :: starEach [] X.env := by rfl) : DE X (.Call (.Name "all" p) [e] [] pos) (mCall (fAll fun bs => bs.all id) m) :=
  de_callB (cr_all hc) meets_all hg hm (by decide +kernel) ha (by decide) (by decide) he (by rfl)
theorem de_any (hc : X.calm = true) (hg : Gl X "any") (hm : X.mg "any" = none) (ha : DA X [e] m) (he : starEach [e] X.env = (false, eval e X.env) :: starEach [] X.env := by rfl) : DE X (.Call (.Name "any" p) [e] [] pos) (mCall (fAll fun bs => bs.any id) m) :=
  de_callB (cr_any hc) meets_all hg hm (by decide +kernel) ha (by decide) (by decide) he (by rfl)
theorem de_sum (hc : X.calm = true) (hg : Gl X "sum") (hm : X.mg "sum" = none) (ha : DA X [e] m) (he : starEach [e] X.env = (false, eval e X.env) :: starEach [] X.env := by rfl) : DE X (.Call (.Name "sum" p) [e] [] pos) (mCall fSum m) :=
  de_callB (cr_sum hc) meets_sum hg hm (by decide +kernel) ha (by decide) (by decide) he (by rfl)

/-! ### calls of the text's own defs -/
def arg : W → W
  | .new ds => .dat (.list ds)
  | w => w
inductive RwA (K : PySem.W.Frag) (β : Ad) (H : Hp) : List V → List W → Prop
  | nil : RwA K β H [] []
  | cons {v : V} {vs : List V} {w : W} {ws : List W} : Rw K β H v w → RwA K β H vs ws → RwA K β H (v :: vs) (w :: ws)
theorem Rv.arg {K : PySem.W.Frag} {β : Ad} {H : Hp} {v : V} {w : W} (h : Rv K β H v w) : Rw K β H v (BV.arg w) := by
  cases w with
  | new ds => exact h.item rfl
  | dat d => exact h
  | hd n => exact h
  | frz ds => exact h
theorem RvA.args {K : PySem.W.Frag} {β : Ad} {H : Hp} {vs : List V} {ws : List W} (h : RvA K β H vs ws) : RwA K β H vs (ws.map BV.arg) := by
  induction h with
  | nil => exact .nil
  | cons r _ ih => exact .cons r.arg ih
abbrev MF := List W → Sto → Option (W × Sto)
/-- the promise: what F says -/
def spF (K : PySem.W.Frag) (n : Nat) (F : MF) : Sp := fun vs H Q _ => vs.length = n ∧ ∃ β S ws w S', Cells K β S H ∧ RwA K β H vs ws ∧ F ws S = some (w, S') ∧ Then K β S' H w Q
def mFn (n : Nat) (F : MF) (m : MA) : ME := fun η S => (m η S).bind fun p => if p.1.length = n then F (p.1.map arg) p.2 else none
theorem de_call {x : Str} {k : Nat} {f : Addr} {fd : FuncData} {ps : List Str} {F : MF} (hG : X.A.guards = some []) (G : FnG X.prog X.w X.K X.mg X.base CX0 k f fd ps (spF X.K ps.length F)) (hr : Room k X.A) (hg : Gl X x) (hm : X.mg x = some (.ref f))
    (hk : PySem.W.keepIn X.K (.ref f) = true) (hb : Binds X.K fd ps []) (ha : DA X (e :: es) m) (hdb : (x == ("__debug__" : Str)) = false := by decide)
    (he : starEach (e :: es) X.env = (false, eval e X.env) :: starEach es X.env := by rfl) (hpl : (backTo pos (starEach es X.env)).any (·.1) = false := by rfl) : DE X (.Call (.Name x p) (e :: es) [] pos) (mFn ps.length F m) :=
  (pe_callG (E := E0) (dvs := []) G hG hr hg hm hk hb .nil pass0 ha hdb he hpl).imp fun σ H Q h => by
    refine tVs_bind (g := fun ws S => if ws.length = ps.length then F (ws.map arg) S else none) h _ fun β S ws vs H1 w S' c r e q => ?_
    split at e
    · rename_i hl
      rw [List.append_nil]
      exact ⟨by rw [r.len]; exact hl, β, S, ws.map arg, w, S', c, r.args, e, q⟩
    · cases e
end
end BV
set_option Elab.async false
set_option linter.all false
set_option maxRecDepth 100000
namespace BV
open PySem PySem.Spec PyProof.Rows L2

/-! ### statements -/
inductive Fl where
  | next | ret (w : W) | brk | cont
abbrev MS := Env → Sto → Option (Fl × Env × Sto)
/-- more cells, all new -/
structure Grown (β β' : Ad) (H : Hp) : Prop where
  ce : β.ce <+: β'.ce
  al : ∀ a ∈ β.al, a ∈ β'.al
  new : ∀ a ∈ β'.al, a ∈ β.al ∨ H a = none
theorem Grown.refl {β : Ad} {H : Hp} : Grown β β H := ⟨List.prefix_refl _, fun _ h => h, fun _ h => .inl h⟩
theorem Grown.keep {β β' : Ad} {H H1 H2 : Hp} (g : Grown β β' H) (k : Keep β H H1) (c : CellL β H) (k' : Keep β' H1 H2) (ce : ∀ a ∈ β'.ce, a ∈ β.ce ∨ H a = none) : Keep β H H2 := fun a o e => by
  rcases k a o e with z | z
  · exact .inl z
  · rcases k' a o z with y | y
    · rcases ce a y with x | x
      · exact .inl x
      · rw [e] at x; cases x
    · exact .inr y
/-- what is wanted behind a statement -/
def Behind (K : PySem.W.Frag) (D : Ends) (β : Ad) (H : Hp) (r : Fl) (η' : Env) (S' : Sto) : Prop :=
  ∀ β' H', Grown β β' H → (∀ a ∈ β'.ce, a ∈ β.ce ∨ H a = none) → Keep β H H' → match r with
    | .next => ∀ σ', SR K β' η' S' σ' H' → D.nx σ' H'
    | .brk => ∀ σ', SR K β' η' S' σ' H' → D.bk σ' H'
    | .cont => ∀ σ', SR K β' η' S' σ' H' → D.ct σ' H'
    | .ret w => ∀ v, Cells K β' S' H' → Rr K β' S' H H' v w → D.rt v H'
def tSt (K : PySem.W.Frag) (m : MS) : TS := fun D σ H => ∃ β η S r η' S', SR K β η S σ H ∧ m η S = some (r, η', S') ∧ Behind K D β H r η' S'
abbrev DS (X : Cx) (st : Stmt) (m : MS) : Prop := PS X st (tSt X.K m)
abbrev DSs (X : Cx) (st : List Stmt) (m : MS) : Prop := PSs X st (tSt X.K m)
theorem _root_.L2.PS.imp {X : Cx} {st : Stmt} {t t' : TS} (h : PS X st t) (i : ∀ D σ H, t' D σ H → t D σ H) : PS X st t' := ⟨fun pins s σ H D I q => h.run pins s σ H D I (i D σ H q)⟩
theorem _root_.L2.PSs.imp {X : Cx} {st : List Stmt} {t t' : TS} (h : PSs X st t) (i : ∀ D σ H, t' D σ H → t D σ H) : PSs X st t' := ⟨fun pins s σ H D I q => h.run pins s σ H D I (i D σ H q)⟩
def mNext : MS := fun η S => some (.next, η, S)
def mBrk : MS := fun η S => some (.brk, η, S)
def mCont : MS := fun η S => some (.cont, η, S)
def mSeq (m1 m2 : MS) : MS := fun η S => (m1 η S).bind fun p => match p.1 with
  | .next => m2 p.2.1 p.2.2
  | r => some (r, p.2.1, p.2.2)
section
variable {K : PySem.W.Frag}
theorem Behind.here {D : Ends} {β : Ad} {η : Env} {S : Sto} {σ : L2.St} {H : Hp} (h : Behind K D β H .next η S) (R : SR K β η S σ H) : D.nx σ H := h β H Grown.refl (fun _ h => .inl h) Keep.refl σ R
/-- two steps are one -/
theorem Behind.after {D : Ends} {β β1 : Ad} {H H1 : Hp} {r : Fl} {η' : Env} {S' : Sto} (h : Behind K D β H r η' S') (c : CellL β H) (c1 : CellL β1 H1) (g : Grown β β1 H) (gc : ∀ a ∈ β1.ce, a ∈ β.ce ∨ H a = none) (k : Keep β H H1) : Behind K D β1 H1 r η' S' := by
  intro β2 H2 g2 gc2 k2
  have back : ∀ a, H1 a = none → H a = none := fun a e => by
    cases q : H a with
    | none => rfl
    | some o =>
      rcases k a o q with z | z
      · obtain ⟨xs, q1⟩ := c1.2 a (g.al a (c.1 a z))
        rw [e] at q1; cases q1
      · rw [e] at z; cases z
  have G : Grown β β2 H := ⟨g.ce.trans g2.ce, fun a ha => g2.al a (g.al a ha), fun a ha => (g2.new a ha).elim (fun z => g.new a z) fun z => .inr (back a z)⟩
  have GC : ∀ a ∈ β2.ce, a ∈ β.ce ∨ H a = none := fun a ha => (gc2 a ha).elim (fun z => gc a z) fun z => .inr (back a z)
  have q := h β2 H2 G GC (g.keep k c k2 gc)
  cases r with
  | next => exact q
  | brk => exact q
  | cont => exact q
  | ret w =>
    intro v c2 r2
    refine q v c2 ?_
    cases w with
    | new ds =>
      obtain ⟨a, xs, e, n, r⟩ := r2
      exact ⟨a, xs, e, back a n, r⟩
    | dat d => exact r2
    | hd n => exact r2
    | frz ds => exact r2
theorem tSt_seq {m1 m2 : MS} {D : Ends} {σ : L2.St} {H : Hp} (h : tSt K (mSeq m1 m2) D σ H) : tSt K m1 { D with nx := fun σ H => tSt K m2 D σ H } σ H := by
  obtain ⟨β, η, S, r, η', S', R, e, q⟩ := h
  unfold mSeq at e
  cases e1 : m1 η S with
  | none => rw [e1] at e; cases e
  | some p =>
    obtain ⟨r1, η1, S1⟩ := p
    rw [e1] at e
    simp only [Option.bind_some] at e
    refine ⟨β, η, S, r1, η1, S1, R, e1, ?_⟩
    cases r1 with
    | next => exact fun β' H' g gc k σ' R' => ⟨β', η1, S1, r, η', S', R', e, q.after R.cl R'.cl g gc k⟩
    | brk => cases e; exact q
    | cont => cases e; exact q
    | ret w => cases e; exact q
end
section
variable {X : Cx} {st : Stmt} {rest : List Stmt} {m1 m2 : MS} {pos : Pos}
theorem ds_nil : DSs X [] mNext := pss_nil.imp fun D σ H ⟨β, η, S, r, η', S', R, e, q⟩ => by
  cases e
  exact q.here R
theorem ds_cons (h1 : DS X st m1) (h2 : DSs X rest m2) : DSs X (st :: rest) (mSeq m1 m2) := (pss_cons h1 h2).imp fun D σ H h => tSt_seq h
theorem ds_one (h1 : DS X st m1) : DSs X [st] m1 := pss_one h1
theorem ds_pass : DS X (.Pass pos) mNext := ps_pass.imp fun D σ H ⟨β, η, S, r, η', S', R, e, q⟩ => by
  cases e
  exact q.here R
theorem ds_brk : DS X (.Break pos) mBrk := ps_break.imp fun D σ H ⟨β, η, S, r, η', S', R, e, q⟩ => by
  cases e
  exact q β H Grown.refl (fun _ h => .inl h) Keep.refl σ R
theorem ds_cont : DS X (.Continue pos) mCont := ps_continue.imp fun D σ H ⟨β, η, S, r, η', S', R, e, q⟩ => by
  cases e
  exact q β H Grown.refl (fun _ h => .inl h) Keep.refl σ R
def mRet (m : ME) : MS := fun η S => (m η S).map fun p => (.ret p.1, η, p.2)
theorem ds_ret {e : Expr} {m : ME} (he : DE X e m) : DS X (.Return (some e) pos) (mRet m) := (ps_ret he).imp fun D σ H ⟨β, η, S, r, η', S', R, e, q⟩ => by
  unfold mRet at e
  cases e1 : m η S with
  | none => rw [e1] at e; cases e
  | some p =>
    obtain ⟨w, S1⟩ := p
    rw [e1] at e
    cases e
    exact ⟨β, η, S, w, S1, R, e1, fun v H' k c r => q β H' Grown.refl (fun _ h => .inl h) k v c r⟩
def mExpr (m : ME) : MS := fun η S => (m η S).map fun p => (.next, η, p.2)
theorem ds_expr {e : Expr} {m : ME} (he : DE X e m) (hs : swapsWith e none pos.line X.env = pure false := by rfl) : DS X (.Expr e pos) (mExpr m) := (ps_expr he hs).imp fun D σ H ⟨β, η, S, r, η', S', R, e, q⟩ => by
  unfold mExpr at e
  cases e1 : m η S with
  | none => rw [e1] at e; cases e
  | some p =>
    obtain ⟨w, S1⟩ := p
    rw [e1] at e
    cases e
    exact ⟨β, η, S, w, S1, R, e1, fun v H' k c r => q β H' Grown.refl (fun _ h => .inl h) k σ (R.keep k c)⟩
def mIfS (t : MT) (m1 m2 : MS) : MS := fun η S => (t η S).bind fun p => (if p.1 = true then m1 else m2) η p.2
theorem ds_if {c : Expr} {a b : List Stmt} {t : MT} (hc : DT X c t) (ha : DSs X a m1) (hb : DSs X b m2) : DS X (.If c a b pos) (mIfS t m1 m2) := (ps_if hc ha hb).imp fun D σ H ⟨β, η, S, r, η', S', R, e, q⟩ => by
  unfold mIfS at e
  cases e1 : t η S with
  | none => rw [e1] at e; cases e
  | some p =>
    obtain ⟨bo, S1⟩ := p
    rw [e1] at e
    simp only [Option.bind_some] at e
    refine ⟨β, η, S, bo, S1, R, e1, fun H' k c => ?_⟩
    have R' := R.keep k c
    have q' := q.after R.cl R'.cl Grown.refl (fun _ h => .inl h) k
    cases bo with
    | true => exact ⟨β, η, S1, r, η', S', R', e, q'⟩
    | false => exact ⟨β, η, S1, r, η', S', R', e, q'⟩
/-! assignments -/
def mSet (i : Nat) (m : ME) : MS := fun η S => (m η S).map fun p => (.next, η.set i (some (arg p.1)), p.2)
def mCell (i : Nat) (m : ME) : MS := fun η S => (m η S).bind fun p => match p.1 with
  | .new ds => some (.next, η.set i (some (.hd p.2.length)), p.2 ++ [ds])
  | .hd n => some (.next, η.set i (some (.hd n)), p.2)
  | _ => none
theorem SR.set {K : PySem.W.Frag} {β : Ad} {η : Env} {S : Sto} {σ : L2.St} {H : Hp} {i : Nat} {v : V} {w : W} (R : SR K β η S σ H) (r : Rw K β H v w) : SR K β (η.set i (some w)) S (σ.set i (some v)) H :=
  ⟨R.cells, by rw [List.length_set, List.length_set]; exact R.len, fun j w' e => by
    by_cases h : j = i
    · subst h
      have hj : j < η.length := by
        have := (List.getElem?_eq_some_iff.mp e).1
        rwa [List.length_set] at this
      rw [List.getElem?_set_self hj] at e
      cases e
      exact ⟨v, by rw [List.getElem?_set_self (by rw [← R.len]; exact hj)], r⟩
    · rw [List.getElem?_set_ne (Ne.symm h)] at e
      obtain ⟨u, e1, q⟩ := R.env j w' e
      exact ⟨u, by rw [List.getElem?_set_ne (Ne.symm h)]; exact e1, q⟩⟩
/-- a new list becomes a cell -/
theorem SR.push {K : PySem.W.Frag} {β : Ad} {η : Env} {S S1 : Sto} {σ : L2.St} {H H1 : Hp} {a : Addr} {xs : List V} {ds : List D} (R : SR K β η S σ H) (k : Keep β H H1) (n : H a = none) (q : H1 a = some (.lst xs)) (r : BpA K (β.av a) H1 xs ds) (ca : Cells K (β.av a) S1 H1) :
    SR K (β.push a) η (S1 ++ [ds]) σ H1 ∧ Grown β (β.push a) H ∧ (∀ b ∈ (β.push a).ce, b ∈ β.ce ∨ H b = none) ∧ (β.push a).ce[S1.length]? = some a := by
  have na : a ∉ β.al := notin_of R.cl n
  have nc : a ∉ β.ce := fun z => na (R.cl.1 a z)
  have len : β.ce.length = S1.length := ca.len
  have cl : CellL (β.push a) H1 := ⟨fun b hb => by
    rcases List.mem_append.mp hb with h | h
    · exact List.mem_cons_of_mem _ (R.cl.1 b h)
    · rw [List.mem_singleton.mp h]; exact List.mem_cons_self, ca.cl.2⟩
  have same : ∀ b ∈ (β.push a).al, b ∈ (β.av a).al ∨ H1 b = none := fun b hb => .inl hb
  have at_ : ∀ (i : Nat) (b : Addr) (es : List D), (β.push a).ce[i]? = some b → (S1 ++ [ds])[i]? = some es → ∃ ys, H1 b = some (.lst ys) ∧ BpA K (β.push a) H1 ys es := fun i b es e1 e2 => by
    replace e1 : (β.ce ++ [a])[i]? = some b := e1
    by_cases h : i < β.ce.length
    · rw [List.getElem?_append_left h] at e1
      rw [List.getElem?_append_left (by omega)] at e2
      obtain ⟨ys, h1, h2⟩ := ca.at_ i b es e1 e2
      exact ⟨ys, h1, h2.keep ca.cl Keep.refl same⟩
    · rw [List.getElem?_append_right (by omega)] at e1 e2
      have hi : i - β.ce.length = 0 := by
        have := (List.getElem?_eq_some_iff.mp e1).1
        rw [List.length_singleton] at this
        omega
      rw [← len, hi] at e2
      rw [hi] at e1
      cases e1
      cases e2
      exact ⟨xs, q, r.keep ca.cl Keep.refl same⟩
  refine ⟨⟨⟨cl, ?_, ?_, at_⟩, R.len, fun i w e => ?_⟩, ⟨List.prefix_append _ _, fun b hb => List.mem_cons_of_mem _ hb, subA n⟩, fun b hb => ?_, ?_⟩
  · exact List.nodup_append.mpr ⟨ca.nd, by simp, fun x hx y hy => by
      rw [List.mem_singleton.mp hy]
      rintro rfl
      exact nc hx⟩
  · show (β.ce ++ [a]).length = (S1 ++ [ds]).length
    rw [List.length_append, List.length_append, len]
    rfl
  · obtain ⟨v, e1, h⟩ := R.env i w e
    exact ⟨v, e1, h.keep R.cl k (subA n) (List.prefix_append _ _)⟩
  · rcases List.mem_append.mp hb with h | h
    · exact .inl h
    · rw [List.mem_singleton.mp h]; exact .inr n
  · show (β.ce ++ [a])[S1.length]? = some a
    rw [← len, List.getElem?_append_right (Nat.le_refl _), Nat.sub_self]
    rfl
theorem tSt_set {K : PySem.W.Frag} {i : Nat} {m : ME} {D : Ends} {σ : L2.St} {H : Hp} (h : tSt K (mSet i m) D σ H) : tV K m σ H fun v H1 => D.nx (σ.set i (some v)) H1 := by
  obtain ⟨β, η, S, r, η', S', R, e, q⟩ := h
  unfold mSet at e
  cases e1 : m η S with
  | none => rw [e1] at e; cases e
  | some p =>
    obtain ⟨w, S1⟩ := p
    rw [e1] at e
    cases e
    exact ⟨β, η, S, w, S1, R, e1, fun v H' k c r => q β H' Grown.refl (fun _ h => .inl h) k _ ((R.keep k c).set (r.rv R.cl).arg)⟩
theorem tSt_cell {K : PySem.W.Frag} {i : Nat} {m : ME} {D : Ends} {σ : L2.St} {H : Hp} (h : tSt K (mCell i m) D σ H) : tV K m σ H fun v H1 => D.nx (σ.set i (some v)) H1 := by
  obtain ⟨β, η, S, r, η', S', R, e, q⟩ := h
  unfold mCell at e
  cases e1 : m η S with
  | none => rw [e1] at e; cases e
  | some p =>
    obtain ⟨w, S1⟩ := p
    rw [e1] at e
    simp only [Option.bind_some] at e
    refine ⟨β, η, S, w, S1, R, e1, fun v H' k c r => ?_⟩
    cases w with
    | dat d => cases e
    | frz d => cases e
    | hd n =>
      cases e
      exact q β H' Grown.refl (fun _ h => .inl h) k _ ((R.keep k c).set (w := .hd n) r)
    | new ds =>
      cases e
      obtain ⟨a, xs, rfl, n, hq, rr, ca⟩ := r
      obtain ⟨R', g, gc, at_⟩ := R.push k n hq rr ca
      exact q (β.push a) H' g gc k _ (R'.set (w := .hd S1.length) ⟨a, at_, rfl⟩)
theorem ds_set {i : Nat} {x : Str} {e : Expr} {m : ME} {pos' : Pos} (hN : X.N.Nodup) (hi : X.N[i]? = some x) (hx : Loc X.env.scope x) (he : DE X e m) (hs : swapsWith e (some (.Name x pos')) pos.line X.env = pure false := by rfl) (hf : X.fn x = true ∨ X.env.scope.names.lookup x = some .local := by first | exact .inl rfl | exact .inr rfl | assumption) : DS X (.Assign [.Name x pos'] e pos) (mSet i m) :=
  (ps_set hN hi hx he hs hf).imp fun D σ H h => tSt_set h
theorem ds_cell {i : Nat} {x : Str} {e : Expr} {m : ME} {pos' : Pos} (hN : X.N.Nodup) (hi : X.N[i]? = some x) (hx : Loc X.env.scope x) (he : DE X e m) (hs : swapsWith e (some (.Name x pos')) pos.line X.env = pure false := by rfl) (hf : X.fn x = true ∨ X.env.scope.names.lookup x = some .local := by first | exact .inl rfl | exact .inr rfl | assumption) : DS X (.Assign [.Name x pos'] e pos) (mCell i m) :=
  (ps_set hN hi hx he hs hf).imp fun D σ H h => tSt_cell h
/-! the changes of a cell -/
theorem nodup_ixA {l : List Addr} (hN : l.Nodup) {i j : Nat} {x : Addr} (a : l[i]? = some x) (b : l[j]? = some x) : i = j := by
  obtain ⟨h1, e1⟩ := List.getElem?_eq_some_iff.mp a
  obtain ⟨h2, e2⟩ := List.getElem?_eq_some_iff.mp b
  exact (List.getElem_inj hN).mp (e1.trans e2.symm)
theorem cells_set {K : PySem.W.Frag} {β : Ad} {S : Sto} {H : Hp} {n : Nat} {a : Addr} {ys : List V} {es : List D} (c : Cells K β S H) (ha : β.ce[n]? = some a) (r : BpA K β H ys es) : Cells K β (S.set n es) (upd H a (.lst ys)) ∧ Keep β H (upd H a (.lst ys)) := by
  have hm : a ∈ β.ce := List.mem_of_getElem? ha
  have k : Keep β H (upd H a (.lst ys)) := fun b o e => by
    by_cases h : b = a
    · subst h; exact .inl hm
    · exact .inr (by rw [upd_ne h]; exact e)
  have cl : CellL β (upd H a (.lst ys)) := ⟨c.cl.1, fun b hb => by
    by_cases h : b = a
    · subst h; exact ⟨ys, upd_same⟩
    · obtain ⟨xs, e⟩ := c.cl.2 b hb
      exact ⟨xs, by rw [upd_ne h]; exact e⟩⟩
  refine ⟨⟨cl, c.nd, by rw [List.length_set]; exact c.len, fun i b ds e1 e2 => ?_⟩, k⟩
  by_cases h : i = n
  · subst h
    rw [ha] at e1
    cases e1
    have hi : i < S.length := by rw [← c.len]; exact (List.getElem?_eq_some_iff.mp ha).1
    rw [List.getElem?_set_self hi] at e2
    cases e2
    exact ⟨ys, upd_same, r.keep c.cl k subR⟩
  · rw [List.getElem?_set_ne (Ne.symm h)] at e2
    obtain ⟨xs, h1, h2⟩ := c.at_ i b ds e1 e2
    have hb : b ≠ a := fun z => h (nodup_ixA c.nd e1 (z ▸ ha))
    exact ⟨xs, by rw [upd_ne hb]; exact h1, h2.keep c.cl k subR⟩
end
end BV
set_option Elab.async false
set_option linter.all false
set_option maxRecDepth 100000
namespace BV
open PySem PySem.Spec PyProof.Rows L2

/-! ### changes of a cell by statements and methods -/
section
variable {K : PySem.W.Frag}
/-- o[i] = e, o a cell -/
def mPut (me mo mi : ME) : MS := fun η S => (me η S).bind fun p => (ditem p.1).bind fun d => (mo η p.2).bind fun q => (mi η q.2).bind fun r => match q.1, iview r.1 with
  | .hd n, some i => (r.2[n]?).bind fun ds => (ixN ds.length i).map fun j => (.next, η, r.2.set n (ds.set j d))
  | _, _ => none
theorem tSt_put {me mo mi : ME} {D : Ends} {σ : L2.St} {H : Hp} (h : tSt K (mPut me mo mi) D σ H) :
    tV K me σ H fun v H1 => tV K mo σ H1 fun o H2 => tV K mi σ H2 fun i H3 => rSetL o i v H3 fun H4 => D.nx σ H4 := by
  obtain ⟨β, η, S, r, η', S', R, e, q⟩ := h
  unfold mPut at e
  cases e1 : me η S with
  | none => rw [e1] at e; cases e
  | some p =>
    obtain ⟨w1, S1⟩ := p
    rw [e1] at e
    simp only [Option.bind_some] at e
    refine ⟨β, η, S, w1, S1, R, e1, fun v1 H1 k1 c1 r1 => ?_⟩
    have R1 := R.keep k1 c1
    cases ed : ditem w1 with
    | none => rw [ed] at e; cases e
    | some d =>
      rw [ed] at e
      simp only [Option.bind_some] at e
      cases e2 : mo η S1 with
      | none => rw [e2] at e; cases e
      | some p =>
        obtain ⟨w2, S2⟩ := p
        rw [e2] at e
        simp only [Option.bind_some] at e
        refine ⟨β, η, S1, w2, S2, R1, e2, fun v2 H2 k2 c2 r2 => ?_⟩
        have R2 := R1.keep k2 c2
        cases e3 : mi η S2 with
        | none => rw [e3] at e; cases e
        | some p =>
          obtain ⟨w3, S3⟩ := p
          rw [e3] at e
          simp only [Option.bind_some] at e
          refine ⟨β, η, S2, w3, S3, R2, e3, fun v3 H3 k3 c3 r3 => ?_⟩
          have R3 := R2.keep k3 c3
          have bd : Bp K β H3 v1 d := (((r1.rv R.cl).keep c1.cl k2).keep c2.cl k3).item ed
          cases w2 with
          | hd n =>
            cases ei : iview w3 with
            | none => rw [ei] at e; cases e
            | some i =>
              rw [ei] at e
              dsimp only at e
              cases es : S3[n]? with
              | none => rw [es] at e; cases e
              | some ds =>
                rw [es] at e
                simp only [Option.bind_some] at e
                cases ej : ixN ds.length i with
                | none => rw [ej] at e; cases e
                | some j =>
                  rw [ej] at e
                  cases e
                  obtain ⟨a, ea, rfl⟩ := r2
                  obtain ⟨xs, hx, rx⟩ := c3.at_ n a ds ea es
                  obtain ⟨c4, k4⟩ := cells_set c3 ea (rx.set bd j)
                  refine ⟨a, xs, i, j, rfl, (r3.rv c2.cl).int ei, hx, by rw [rx.len]; exact ej, ?_⟩
                  exact q β _ Grown.refl (fun _ h => .inl h) (((k1.trans k2).trans k3).trans k4) σ (R3.keep k4 c4)
          | dat _ => cases e
          | new _ => cases e
          | frz _ => cases e
/-- o.append(e), o a cell -/
def mApp (mo me : ME) : ME := fun η S => (mo η S).bind fun p => (me η p.2).bind fun q => (ditem q.1).bind fun d => match p.1 with
  | .hd n => (q.2[n]?).bind fun ds => if ds.length < sizeLine then some (.dat .none, q.2.set n (ds ++ [d])) else none
  | _ => none
theorem Rv.tyL {β : Ad} {S : Sto} {H : Hp} {v : V} {w : W} {ds : List D} (c : Cells K β S H) (h : Rv K β H v w) (e : lview S w = some ds) : tyV K "list" v H := by
  obtain ⟨a, xs, rfl, h1, _⟩ := h.list c e
  exact .inl ⟨rfl, xs, SqL.of h1⟩
theorem tV_app {mo me : ME} {σ : L2.St} {H : Hp} {Q : VK} (h : tV K (mApp mo me) σ H Q) : tBM K "list" rAppend (tV K mo) (tVs K (mCons me mNil)) σ H Q := by
  obtain ⟨β, η, S, w, S', R, e, q⟩ := h
  unfold mApp at e
  cases e1 : mo η S with
  | none => rw [e1] at e; cases e
  | some p =>
    obtain ⟨w1, S1⟩ := p
    rw [e1] at e
    simp only [Option.bind_some] at e
    refine ⟨β, η, S, w1, S1, R, e1, fun v1 H1 k1 c1 r1 => ?_⟩
    have R1 := R.keep k1 c1
    cases e2 : me η S1 with
    | none => rw [e2] at e; cases e
    | some p =>
      obtain ⟨w2, S2⟩ := p
      rw [e2] at e
      simp only [Option.bind_some] at e
      cases ed : ditem w2 with
      | none => rw [ed] at e; cases e
      | some d =>
        rw [ed] at e
        cases w1 with
        | dat _ => cases e
        | new _ => cases e
        | frz _ => cases e
        | hd n =>
          simp only [Option.bind_some] at e
          cases es : S2[n]? with
          | none => rw [es] at e; cases e
          | some ds =>
            rw [es] at e
            simp only [Option.bind_some] at e
            split at e
            · rename_i hz
              cases e
              obtain ⟨a, ea, rfl⟩ := id r1
              have hlt : n < S1.length := by rw [← c1.len]; exact (List.getElem?_eq_some_iff.mp ea).1
              refine ⟨Rv.tyL (w := .hd n) (ds := S1[n]) c1 (show Rv K β H1 (.ref a) (.hd n) from r1) (List.getElem?_eq_getElem hlt), ?_⟩
              refine ⟨β, η, S1, [w2], S2, R1, by simp only [mCons, mNil, e2, Option.bind_some, Option.map_some], fun vs H2 k2 c2 r2 => ?_⟩
              obtain ⟨v2, rfl, rv⟩ := (r2.rva c1.cl).one
              obtain ⟨xs, hx, rx⟩ := c2.at_ n a ds ea es
              obtain ⟨c3, k3⟩ := cells_set (es := ds ++ [d]) c2 ea (rx.append (.cons (rv.item ed) .nil))
              exact ⟨a, xs, v2, rfl, rfl, hx, by rw [rx.len]; exact hz, q _ _ ((k1.trans k2).trans k3) c3 .non⟩
            · cases e
/-- o.pop(), o a cell -/
def mPop (mo : ME) : ME := fun η S => (mo η S).bind fun p => match p.1 with
  | .hd n => (p.2[n]?).bind fun ds => (ds[ds.length - 1]?).map fun d => (.dat d, p.2.set n ds.dropLast)
  | _ => none
theorem BpA.dropLast {β : Ad} {H : Hp} {vs : List V} {ds : List D} (r : BpA K β H vs ds) : BpA K β H vs.dropLast ds.dropLast := by
  rw [List.dropLast_eq_take, List.dropLast_eq_take, r.len]
  exact r.take _
theorem tV_pop {mo : ME} {σ : L2.St} {H : Hp} {Q : VK} (h : tV K (mPop mo) σ H Q) : tBM0 K "list" rPop (tV K mo) σ H Q := by
  obtain ⟨β, η, S, w, S', R, e, q⟩ := h
  unfold mPop at e
  cases e1 : mo η S with
  | none => rw [e1] at e; cases e
  | some p =>
    obtain ⟨w1, S1⟩ := p
    rw [e1] at e
    simp only [Option.bind_some] at e
    refine ⟨β, η, S, w1, S1, R, e1, fun v1 H1 k1 c1 r1 => ?_⟩
    cases w1 with
    | dat _ => cases e
    | new _ => cases e
    | frz _ => cases e
    | hd n =>
      dsimp only at e
      cases es : S1[n]? with
      | none => rw [es] at e; cases e
      | some ds =>
        rw [es] at e
        simp only [Option.bind_some] at e
        cases el : ds[ds.length - 1]? with
        | none => rw [el] at e; cases e
        | some d =>
          rw [el] at e
          cases e
          obtain ⟨a, ea, rfl⟩ := id r1
          obtain ⟨xs, hx, rx⟩ := c1.at_ n a ds ea es
          obtain ⟨y, hy, by_⟩ := rx.get' el
          obtain ⟨c3, k3⟩ := cells_set c1 ea rx.dropLast
          refine ⟨.inl ⟨rfl, xs, SqL.of hx⟩, a, xs, y, rfl, rfl, hx, by rw [rx.len]; exact hy, ?_⟩
          exact q _ _ (k1.trans k3) c3 (by_.keep c1.cl k3 subR)
/-- xs.index(x), xs a list -/
def firstAt (x : D) : List D → Option Nat
  | [] => none
  | d :: ds => if PyData.eqv d x = true then some 0 else (firstAt x ds).map (· + 1)
theorem firstAt_spec {x : D} : ∀ {ds : List D} {j : Nat}, firstAt x ds = some j → ∃ z, ds[j]? = some z ∧ PyData.eqv z x = true ∧ ∀ (m : Nat) (z' : D), m < j → ds[m]? = some z' → PyData.eqv z' x = false
  | [], _, e => by cases e
  | d :: ds, j, e => by
    unfold firstAt at e
    split at e
    · rename_i h
      cases e
      exact ⟨d, rfl, h, fun m z' hm => absurd hm (Nat.not_lt_zero _)⟩
    · rename_i h
      cases e1 : firstAt x ds with
      | none => rw [e1] at e; cases e
      | some i =>
        rw [e1] at e
        cases e
        obtain ⟨z, h1, h2, h3⟩ := firstAt_spec e1
        refine ⟨z, by simpa using h1, h2, fun m z' hm e2 => ?_⟩
        cases m with
        | zero =>
          cases e2
          simpa using h
        | succ m => exact h3 m z' (by dsimp only at hm; omega) (by simpa using e2)
def fIndex : F2 := fun S a b => match lview S a, dview S b with
  | some ds, some x => if SeqAt.shaped (.list ds) = true ∧ SeqAt.shaped x = true then (firstAt x ds).map fun j => .dat (.int (j : Nat)) else none
  | _, _ => none
def isL : W → Bool
  | .dat (.list _) => true
  | .new _ => true
  | .hd _ => true
  | _ => false
def isS : W → Bool
  | .dat (.str _) => true
  | _ => false
theorem Rv.isL {β : Ad} {S : Sto} {H : Hp} {v : V} {w : W} (c : Cells K β S H) (h : Rv K β H v w) (e : isL w = true) : tyV K "list" v H := by
  cases w with
  | dat d =>
    cases d with
    | list ds => exact h.tyL c (ds := ds) rfl
    | _ => cases e
  | new ds => exact h.tyL c (ds := ds) rfl
  | hd n =>
    obtain ⟨a, ea, rfl⟩ := id h
    have hlt : n < S.length := by rw [← c.len]; exact (List.getElem?_eq_some_iff.mp ea).1
    exact h.tyL c (ds := S[n]) (List.getElem?_eq_getElem hlt)
  | frz _ => cases e
theorem Rv.isS {β : Ad} {S : Sto} {H : Hp} {v : V} {w : W} (c : Cells K β S H) (h : Rv K β H v w) (e : isS w = true) : tyV K "str" v H := by
  cases w with
  | dat d =>
    cases d with
    | str z =>
      have ev := h.str rfl
      subst ev
      rfl
    | _ => cases e
  | _ => cases e
def mMeth1 (ok : W → Bool) (f : F2) (mo me : ME) : ME := fun η S => (mo η S).bind fun p => if ok p.1 = true then (me η p.2).bind fun q => (f q.2 p.1 q.1).map fun w => (w, q.2) else none
theorem tV_meth1 {r : V → List V → Hp → VK → Prop} {ok : W → Bool} {f : F2} {mo me : ME} {σ : L2.St} {H : Hp} {Q : VK} {T : String} (hty : ∀ β S H v w, Cells K β S H → Rv K β H v w → ok w = true → tyV K T v H)
    (hf : ∀ β S H v1 v2 w1 w2 w Q, Cells K β S H → Rv K β H v1 w1 → Rv K β H v2 w2 → f S w1 w2 = some w → Then K β S H w Q → r v1 [v2] H Q) (h : tV K (mMeth1 ok f mo me) σ H Q) : tBM K T r (tV K mo) (tVs K (mCons me mNil)) σ H Q := by
  obtain ⟨β, η, S, w, S', R, e, q⟩ := h
  unfold mMeth1 at e
  cases e1 : mo η S with
  | none => rw [e1] at e; cases e
  | some p =>
    obtain ⟨w1, S1⟩ := p
    rw [e1] at e
    simp only [Option.bind_some] at e
    split at e
    · rename_i hok
      refine ⟨β, η, S, w1, S1, R, e1, fun v1 H1 k1 c1 r1 => ?_⟩
      have R1 := R.keep k1 c1
      cases e2 : me η S1 with
      | none => rw [e2] at e; cases e
      | some p =>
        obtain ⟨w2, S2⟩ := p
        rw [e2] at e
        simp only [Option.bind_some] at e
        cases e3 : f S2 w1 w2 with
        | none => rw [e3] at e; cases e
        | some w3 =>
          rw [e3] at e
          cases e
          refine ⟨hty β S1 H1 v1 w1 c1 (r1.rv R.cl) hok, ?_⟩
          refine ⟨β, η, S1, [w2], S', R1, by simp only [mCons, mNil, e2, Option.bind_some, Option.map_some], fun vs H2 k2 c2 r2 => ?_⟩
          obtain ⟨v2, rfl, rv⟩ := (r2.rva c1.cl).one
          refine hf β S' H2 v1 v2 w1 w2 w Q c2 ((r1.rv R.cl).keep c1.cl k2) rv e3 fun v3 H3 k3 c3 r3 => ?_
          exact q v3 H3 ((k1.trans k2).trans k3) c3 (r3.back c2.cl (k1.trans k2))
    · cases e
theorem index_ok : ∀ (β : Ad) (S : Sto) (H : Hp) (v1 v2 : V) (w1 w2 w : W) (Q : VK), Cells K β S H → Rv K β H v1 w1 → Rv K β H v2 w2 → fIndex S w1 w2 = some w → Then K β S H w Q → rIndexD K v1 [v2] H Q := by
  intro β S H v1 v2 w1 w2 w Q c r1 r2 e q
  unfold fIndex at e
  split at e
  · rename_i ds x h1 h2
    split at e
    · rename_i hs
      cases e1 : firstAt x ds with
      | none => rw [e1] at e; cases e
      | some j =>
        rw [e1] at e
        cases e
        obtain ⟨a, xs, rfl, hx, rx⟩ := r1.list c h1
        obtain ⟨z, f1, f2, f3⟩ := firstAt_spec e1
        exact ⟨a, v2, x, ds, j, z, rfl, rfl, .lst (SqL.of hx) rx.dp, r2.dp c h2, hs.1, hs.2, f1, f2, f3, q.int c⟩
    · cases e
  · cases e
def fCount : F2 := fun S a b => match lview S a, iview b with
  | some ds, some x => (intsD ds).map fun ns => .dat (.int (ns.count x : Nat))
  | _, _ => none
theorem count_ok : ∀ (β : Ad) (S : Sto) (H : Hp) (v1 v2 : V) (w1 w2 w : W) (Q : VK), Cells K β S H → Rv K β H v1 w1 → Rv K β H v2 w2 → fCount S w1 w2 = some w → Then K β S H w Q → rCntI K v1 [v2] H Q := by
  intro β S H v1 v2 w1 w2 w Q c r1 r2 e q
  unfold fCount at e
  split at e
  · rename_i ds x h1 h2
    cases e1 : intsD ds with
    | none => rw [e1] at e; cases e
    | some ns =>
      rw [e1] at e
      cases e
      obtain ⟨a, xs, rfl, hx, rx⟩ := r1.list c h1
      have ex := intsD_ok rx e1
      subst ex
      have ev := r2.int h2
      subst ev
      exact ⟨a, ns, x, rfl, rfl, SqL.of hx, q.int c⟩
  · cases e
end
section
variable {X : Cx} {o e i : Expr} {mo me mi : ME} {pos apos p' : Pos}
theorem ds_put (he : DE X e me) (hg : PG X (.Subscript o i p') (gSub (tV X.K mo) (tV X.K mi) rSetL)) (hs : swapsWithSole [.Subscript o i p'] e pos.line X.env = pure false := by rfl) (hw : swappedStores [.Subscript o i p'] e X.env = pure none := by rfl)
    (h1 : (assignEach [.Subscript o i p'] X.env).map (·.2) = [assign (.Subscript o i p') X.env] := by rfl) : DS X (.Assign [.Subscript o i p'] e pos) (mPut me mo mi) :=
  (ps_asg he hg hs hw h1).imp fun D σ H h => tSt_put h
theorem de_app (ho : DE X o mo) (he : DE X e me) (hbase : attributeBase o "append" X.env (eval o X.env) = eval o X.env := by rfl)
    (hfew : ((backTo pos (starEach [e] X.env)).all (fun x => !x.1) && (backToKw pos (keywordEach [] X.env)).all (fun x => x.1.isSome)
      && decide ([e].length + ([] : List Keyword).length + (if ([] : List Keyword).isEmpty then 0 else 1) < 30)) = true := by rfl)
    (hline : (apos.endLine == pos.line) = true := by rfl) (hs : starEach [e] X.env = (false, eval e X.env) :: starEach [] X.env := by rfl) : DE X (.Call (.Attribute o "append" apos) [e] [] pos) (mApp mo me) :=
  (pe_bm PySem.F.plainAttrs_list PySem.F.slot_list_append PySem.F.type_list_append mt_append ho (da_cons he da_nil hs) hbase hfew hline hs (by rfl)).imp fun σ H Q h => tV_app h
theorem de_pop (ho : DE X o mo) (hbase : attributeBase o "pop" X.env (eval o X.env) = eval o X.env := by rfl) (hline : (apos.endLine == pos.line) = true := by rfl) : DE X (.Call (.Attribute o "pop" apos) [] [] pos) (mPop mo) :=
  (pe_bm0 PySem.F.plainAttrs_list PySem.F.slot_list_pop PySem.F.type_list_pop mt_pop ho hbase hline).imp fun σ H Q h => tV_pop h
theorem de_index (hu : X.A.units + 65 < cLine) (ho : DE X o mo) (he : DE X e me) (hbase : attributeBase o "index" X.env (eval o X.env) = eval o X.env := by rfl)
    (hfew : ((backTo pos (starEach [e] X.env)).all (fun x => !x.1) && (backToKw pos (keywordEach [] X.env)).all (fun x => x.1.isSome)
      && decide ([e].length + ([] : List Keyword).length + (if ([] : List Keyword).isEmpty then 0 else 1) < 30)) = true := by rfl)
    (hline : (apos.endLine == pos.line) = true := by rfl) (hs : starEach [e] X.env = (false, eval e X.env) :: starEach [] X.env := by rfl) : DE X (.Call (.Attribute o "index" apos) [e] [] pos) (mMeth1 isL fIndex mo me) :=
  (pe_bm PySem.F.plainAttrs_list PySem.F.slot_list_index PySem.F.type_list_index (mt_indexD hu) ho (da_cons he da_nil hs) hbase hfew hline hs (by rfl)).imp fun σ H Q h => tV_meth1 (fun β S H v w => Rv.isL) index_ok h
theorem de_count (ho : DE X o mo) (he : DE X e me) (hbase : attributeBase o "count" X.env (eval o X.env) = eval o X.env := by rfl)
    (hfew : ((backTo pos (starEach [e] X.env)).all (fun x => !x.1) && (backToKw pos (keywordEach [] X.env)).all (fun x => x.1.isSome)
      && decide ([e].length + ([] : List Keyword).length + (if ([] : List Keyword).isEmpty then 0 else 1) < 30)) = true := by rfl)
    (hline : (apos.endLine == pos.line) = true := by rfl) (hs : starEach [e] X.env = (false, eval e X.env) :: starEach [] X.env := by rfl) : DE X (.Call (.Attribute o "count" apos) [e] [] pos) (mMeth1 isL fCount mo me) :=
  (pe_bm PySem.F.plainAttrs_list PySem.F.slot_list_count PySem.F.type_list_count mt_lcount ho (da_cons he da_nil hs) hbase hfew hline hs (by rfl)).imp fun σ H Q h => tV_meth1 (fun β S H v w => Rv.isL) count_ok h
end
end BV
set_option Elab.async false
set_option linter.all false
set_option maxRecDepth 100000
namespace BV
open PySem PySem.Spec PyProof.Rows L2

/-! ### targets -/
/-- slots that a target may set are among vs -/
def SetsIn (vs : List Nat) (σ σ' : L2.St) : Prop := ∀ us : List Nat, (∀ i ∈ vs, i ∈ us) → wipe σ' us = wipe σ us
theorem wipe_set {i : Nat} {v : Option V} : ∀ {us : List Nat} {σ : L2.St}, i ∈ us → wipe (σ.set i v) us = wipe σ us
  | u :: us, σ, h => by
    unfold wipe
    by_cases e : i ∈ us
    · rw [wipe_set e]
    · have hu : i = u := (List.mem_cons.mp h).resolve_right e
      subst hu
      have key : ∀ (ws : List Nat), i ∉ ws → wipe (σ.set i v) ws = (wipe σ ws).set i v := by
        intro ws
        induction ws with
        | nil => intro _; rfl
        | cons a ws ih =>
          intro hn
          unfold wipe
          rw [ih (fun z => hn (List.mem_cons_of_mem _ z)), List.set_comm _ _ (fun z => hn (by rw [z]; exact List.mem_cons_self))]
      rw [key us e, List.set_set]
abbrev BE := D → Env → Option Env
def tG (K : PySem.W.Frag) (b : BE) (vs : List Nat) : TG := fun v σ H Q => ∃ β η S d η', SR K β η S σ H ∧ Bp K β H v d ∧ b d η = some η' ∧ ∀ σ', SR K β η' S σ' H → SetsIn vs σ σ' → Q σ' H
def tGs (K : PySem.W.Frag) (b : List D → Env → Option Env) (vs : List Nat) : TGs := fun xs σ H Q => ∃ β η S ds η', SR K β η S σ H ∧ BpA K β H xs ds ∧ b ds η = some η' ∧ ∀ σ', SR K β η' S σ' H → SetsIn vs σ σ' → Q σ' H
abbrev DG (X : Cx) (tg : Expr) (b : BE) (vs : List Nat) : Prop := PG X tg (tG X.K b vs)
abbrev DGs (X : Cx) (tg : List Expr) (b : List D → Env → Option Env) (vs : List Nat) : Prop := PGs X tg (tGs X.K b vs)
theorem _root_.L2.PG.imp {X : Cx} {e : Expr} {t t' : TG} (h : PG X e t) (i : ∀ v σ H Q, t' v σ H Q → t v σ H Q) : PG X e t' := ⟨fun pins s σ H v u Q I r q => h.run pins s σ H v u Q I r (i v σ H Q q)⟩
theorem _root_.L2.PGs.imp {X : Cx} {e : List Expr} {t t' : TGs} (h : PGs X e t) (i : ∀ v σ H Q, t' v σ H Q → t v σ H Q) : PGs X e t' := ⟨fun pins s σ H v u Q I r q => h.run pins s σ H v u Q I r (i v σ H Q q)⟩
def bName (i : Nat) : BE := fun d η => some (η.set i (some (.dat d)))
def bNil : List D → Env → Option Env := fun ds η => match ds with | [] => some η | _ => none
def bCons (b : BE) (bs : List D → Env → Option Env) : List D → Env → Option Env := fun ds η => match ds with | d :: ds => (b d η).bind fun η' => bs ds η' | _ => none
def bTup (n : Nat) (bs : List D → Env → Option Env) : BE := fun d η => match d with | .tuple ds => if ds.length = n then bs ds η else none | .list ds => if ds.length = n then bs ds η else none | _ => none
section
variable {X : Cx} {pos : Pos} {b : BE} {bs : List D → Env → Option Env} {vs us : List Nat}
theorem dg_name {i : Nat} {x : Str} (hN : X.N.Nodup) (hi : X.N[i]? = some x) (hx : Loc X.env.scope x) (hf : X.fn x = true ∨ X.env.scope.names.lookup x = some .local := by first | exact .inl rfl | exact .inr rfl | assumption) : DG X (.Name x pos) (bName i) [i] :=
  (pg_name hN hi hx hf).imp fun v σ H Q ⟨β, η, S, d, η', R, r, e, q⟩ => by
    cases e
    exact q _ (R.set (w := .dat d) r) fun us h => wipe_set (h i List.mem_cons_self)
theorem dg_nil : DGs X [] bNil [] := pgs_nil.imp fun v σ H Q ⟨β, η, S, ds, η', R, r, e, q⟩ => by
  cases ds with
  | nil => cases e; cases r; exact ⟨rfl, q σ R fun us _ => rfl⟩
  | cons => cases e
theorem dg_cons {e : Expr} {es : List Expr} (h1 : DG X e b vs) (h2 : DGs X es bs us) (ha : (assignEach (e :: es) X.env).map (·.2) = assign e X.env :: (assignEach es X.env).map (·.2) := by rfl) : DGs X (e :: es) (bCons b bs) (vs ++ us) := (pgs_cons h1 h2 ha).imp fun v σ H Q ⟨β, η, S, ds, η', R, r, e, q⟩ => by
  cases ds with
  | nil => cases e
  | cons d ds =>
    cases r with
    | @cons v vs' _ _ rv rr =>
      replace e : ((b d η).bind fun η' => bs ds η') = some η' := e
      cases e1 : b d η with
      | none => rw [e1] at e; cases e
      | some η1 =>
        rw [e1] at e
        refine ⟨v, vs', rfl, ⟨β, η, S, d, η1, R, rv, e1, fun σ' R' si => ?_⟩⟩
        refine ⟨β, η1, S, ds, η', R', rr, e, fun σ'' R'' si' => ?_⟩
        exact q σ'' R'' fun ws hw => (si' ws fun i hi => hw i (List.mem_append_right _ hi)).trans (si ws fun i hi => hw i (List.mem_append_left _ hi))
theorem pg_seq {es : List Expr} {k : Nat} {t : TGs} {n : Nat} (hc : X.calm = true) (h : PGs X es t)
    (hn : (assignEach es X.env).length = n := by rfl) (hst : (assignEach es X.env).findIdx? (·.1) = none := by rfl) : PG X (.Tuple es k pos) (fun v σ H Q => gTup X.K n t v σ H Q ∨ gLst X.K n t v σ H Q) :=
  ⟨fun pins s σ H v u Q I r hw => hw.elim (fun h1 => (pg_tup hc h hn hst).run pins s σ H v u Q I r h1) (fun h1 => (pg_lst hc h hn hst).run pins s σ H v u Q I r h1)⟩
theorem dg_tup {es : List Expr} {k n : Nat} (hc : X.calm = true) (h : DGs X es bs vs) (hn : (assignEach es X.env).length = n := by rfl) (hst : (assignEach es X.env).findIdx? (·.1) = none := by rfl) : DG X (.Tuple es k pos) (bTup n bs) vs := (pg_seq hc h hn hst).imp fun v σ H Q ⟨β, η, S, d, η', R, r, e, q⟩ => by
  cases d with
  | tuple ds =>
    replace e : (if ds.length = n then bs ds η else none) = some η' := e
    split at e
    · rename_i hl
      cases r with
      | @tup a xs _ hs rr => exact .inl ⟨a, xs, rfl, hs, by rw [rr.len]; exact hl, ⟨β, η, S, ds, η', R, rr, e, q⟩⟩
    · cases e
  | list ds =>
    replace e : (if ds.length = n then bs ds η else none) = some η' := e
    split at e
    · rename_i hl
      cases r with
      | @lst a xs _ na hs rr => exact .inr ⟨a, xs, rfl, SqL.of hs, by rw [rr.len]; exact hl, ⟨β, η, S, ds, η', R, rr, e, q⟩⟩
    · cases e
  | _ => cases e
/-- target = e -/
def mAsg (b : BE) (m : ME) : MS := fun η S => (m η S).bind fun p => (ditem p.1).bind fun d => (b d η).map fun η' => (.next, η', p.2)
theorem ds_asg {tg e : Expr} {m : ME} (he : DE X e m) (hg : DG X tg b vs) (hs : swapsWithSole [tg] e pos.line X.env = pure false := by rfl) (hw : swappedStores [tg] e X.env = pure none := by rfl)
    (h1 : (assignEach [tg] X.env).map (·.2) = [assign tg X.env] := by rfl) : DS X (.Assign [tg] e pos) (mAsg b m) := (ps_asg he hg hs hw h1).imp fun D σ H ⟨β, η, S, r, η', S', R, e, q⟩ => by
  unfold mAsg at e
  cases e1 : m η S with
  | none => rw [e1] at e; cases e
  | some p =>
    obtain ⟨w, S1⟩ := p
    rw [e1] at e
    simp only [Option.bind_some] at e
    cases e2 : ditem w with
    | none => rw [e2] at e; cases e
    | some d =>
      rw [e2] at e
      simp only [Option.bind_some] at e
      cases e3 : b d η with
      | none => rw [e3] at e; cases e
      | some η1 =>
        rw [e3] at e
        cases e
        refine ⟨β, η, S, w, _, R, e1, fun v H1 k c r1 => ?_⟩
        have R1 := R.keep k c
        exact ⟨β, η, _, d, _, R1, (r1.rv R.cl).item e2, e3, fun σ' R' _ => q β H1 Grown.refl (fun _ h => .inl h) k σ' R'⟩
/-! a, b = e1, e2 : new lists may become cells -/
def parSet : List (Nat × Bool) → List W → Env → Sto → Option (Env × Sto)
  | [], [], η, S => some (η, S)
  | (i, false) :: ts, w :: ws, η, S => parSet ts ws (η.set i (some (arg w))) S
  | (i, true) :: ts, .new ds :: ws, η, S => parSet ts ws (η.set i (some (.hd S.length))) (S ++ [ds])
  | (i, true) :: ts, .hd n :: ws, η, S => parSet ts ws (η.set i (some (.hd n))) S
  | _, _, _, _ => none
def setAll : List Nat → List V → L2.St → L2.St
  | i :: is, v :: vs, σ => setAll is vs (σ.set i (some v))
  | _, _, σ => σ
def mPar (ts : List (Nat × Bool)) (m : MA) : MS := fun η S => (m η S).bind fun p => (parSet ts p.1 η p.2).map fun q => (.next, q.1, q.2)
theorem RrN.grow {K : PySem.W.Frag} {β β' : Ad} {H : Hp} {vs : List V} {ws : List W} {ns : List Addr} (c : CellL β H) (sub : ∀ a ∈ β'.al, a ∈ β.al ∨ H a = none) (pre : β.ce <+: β'.ce) (r : RrN K β H vs ws ns) : RrN K β' H vs ws ns := by
  induction r with
  | nil => exact .nil
  | val h _ ih => exact .val (h.keep c Keep.refl sub pre) ih
  | new h1 h2 _ ih => exact .new h1 (h2.keep c Keep.refl sub) ih
theorem par_ok {K : PySem.W.Frag} {H : Hp} {ws : List W} : ∀ {ts : List (Nat × Bool)} {γ : Ad} {al : List Addr} {η η' : Env} {S S' : Sto} {σ : L2.St} {vs : List V} {ns : List Addr}, Cells K γ S H → η.length = σ.length →
    (∀ (i : Nat) (w : W), η[i]? = some (some w) → ∃ v, σ[i]? = some (some v) ∧ Rw K ⟨ns ++ al, γ.ce⟩ H v w) → RrN K γ H vs ws ns → ns.Nodup → (∀ a ∈ ns, a ∈ γ.al ∧ a ∉ γ.ce ∧ a ∉ al) → (∀ a ∈ al, a ∈ γ.al) → (∀ a ∈ γ.ce, a ∈ al) → parSet ts ws η S = some (η', S') →
    ∃ δ : Ad, (∀ a ∈ al, a ∈ δ.al) ∧ (∀ a ∈ δ.al, a ∈ γ.al) ∧ γ.ce <+: δ.ce ∧ (∀ a ∈ δ.ce, a ∈ γ.ce ∨ a ∈ ns) ∧ SR K δ η' S' (setAll (ts.map (·.1)) vs σ) H ∧ vs.length = ts.length := by
  induction ws with
  | nil =>
    intro ts γ al η η' S S' σ vs ns C L E r nd hn hal hce e
    cases r
    cases ts with
    | nil =>
      cases e
      have cl : CellL (⟨al, γ.ce⟩ : Ad) H := ⟨hce, fun a ha => C.cl.2 a (hal a ha)⟩
      exact ⟨⟨al, γ.ce⟩, fun _ h => h, hal, List.prefix_refl _, fun a h => .inl h, ⟨C.sub rfl hal cl, L, E⟩, rfl⟩
    | cons t ts => obtain ⟨i, b⟩ := t; cases b <;> cases e
  | cons w ws ih =>
    intro ts γ al η η' S S' σ vs ns C L E r nd hn hal hce e
    cases ts with
    | nil => cases e
    | cons t ts =>
      obtain ⟨i, b⟩ := t
      have nsg : ∀ a ∈ ns, a ∈ γ.al := fun a ha => (hn a ha).1
      have clE : CellL (⟨ns ++ al, γ.ce⟩ : Ad) H := ⟨fun a ha => List.mem_append_right _ (hce a ha), fun a ha => C.cl.2 a ((List.mem_append.mp ha).elim (nsg a) (hal a))⟩
      have setE : ∀ {al' : List Addr} {ce' : List Addr} {v : V} {w' : W}, (∀ a ∈ al', a ∈ ns ++ al) → γ.ce <+: ce' → Rw K ⟨al', ce'⟩ H v w' → (∀ (j : Nat) (u : W), (η.set i (some w'))[j]? = some (some u) → ∃ v', (σ.set i (some v))[j]? = some (some v') ∧ Rw K ⟨al', ce'⟩ H v' u) := by
        intro al' ce' v w' ha' hp' hr j u hj
        by_cases hij : i = j
        · subst hij
          by_cases hlt : i < η.length
          · rw [List.getElem?_set_self hlt] at hj
            cases hj
            exact ⟨v, List.getElem?_set_self (by omega), hr⟩
          · rw [List.getElem?_eq_none (by rw [List.length_set]; omega)] at hj
            cases hj
        · rw [List.getElem?_set_ne hij] at hj
          obtain ⟨v', h1, h2⟩ := E j u hj
          exact ⟨v', by rw [List.getElem?_set_ne hij]; exact h1, h2.keep clE Keep.refl (fun a ha => .inl (ha' a ha)) hp'⟩
      have setL : ∀ {v : V} {w' : W}, (η.set i (some w')).length = (σ.set i (some v)).length := by
        intro v w'
        rw [List.length_set, List.length_set]
        exact L
      cases r with
      | @val v vs _ _ ns rv rr =>
        have rv' : Rw K ⟨ns ++ al, γ.ce⟩ H v w := rv.keep C.cl Keep.refl (fun a ha => .inl ((List.mem_append.mp ha).elim (nsg a) (hal a))) (List.prefix_refl _)
        cases b with
        | false =>
          have ea : BV.arg w = w := by
            cases w with
            | new ds => exact absurd rv id
            | dat _ => rfl
            | hd _ => rfl
            | frz _ => rfl
          replace e : parSet ts ws (η.set i (some (BV.arg w))) S = some (η', S') := e
          rw [ea] at e
          obtain ⟨δ, h0, h1, h2, h3, h4, h5⟩ := ih C setL (setE (fun _ h => h) (List.prefix_refl _) rv') rr nd hn hal hce e
          exact ⟨δ, h0, h1, h2, h3, h4, by rw [List.length_cons, List.length_cons, h5]⟩
        | true =>
          cases w with
          | hd n =>
            obtain ⟨δ, h0, h1, h2, h3, h4, h5⟩ := ih C setL (setE (w' := .hd n) (fun _ h => h) (List.prefix_refl _) rv') rr nd hn hal hce e
            exact ⟨δ, h0, h1, h2, h3, h4, by rw [List.length_cons, List.length_cons, h5]⟩
          | new ds => exact absurd rv id
          | dat _ => cases e
          | frz _ => cases e
      | @new a xs vs ds _ ns hq rb rr =>
        have hnd := List.nodup_cons.mp nd
        have ha := hn a List.mem_cons_self
        cases b with
        | false =>
          replace e : parSet ts ws (η.set i (some (.dat (.list ds)))) S = some (η', S') := e
          have sm : ∀ b ∈ ns ++ al, b ∈ (a :: ns) ++ al := fun b hb => by rw [List.cons_append]; exact List.mem_cons_of_mem _ hb
          have rv' : Rw K ⟨ns ++ al, γ.ce⟩ H (.ref a) (.dat (.list ds)) := Bp.lst (fun z => (List.mem_append.mp z).elim hnd.1 ha.2.2) hq (rb.keep C.cl Keep.refl fun b hb => .inl ((List.mem_append.mp hb).elim (fun h => nsg b (List.mem_cons_of_mem _ h)) (hal b)))
          obtain ⟨δ, h0, h1, h2, h3, h4, h5⟩ := ih C setL (setE sm (List.prefix_refl _) rv') rr hnd.2 (fun b hb => hn b (List.mem_cons_of_mem _ hb)) hal hce e
          exact ⟨δ, h0, h1, h2, fun b hb => (h3 b hb).imp id (List.mem_cons_of_mem _), h4, by rw [List.length_cons, List.length_cons, h5]⟩
        | true =>
          replace e : parSet ts ws (η.set i (some (.hd S.length))) (S ++ [ds]) = some (η', S') := e
          let γ1 : Ad := ⟨γ.al, γ.ce ++ [a]⟩
          have cl1 : CellL γ1 H := ⟨fun b hb => by
            rcases List.mem_append.mp hb with h | h
            · exact C.cl.1 b h
            · rw [List.mem_singleton.mp h]; exact ha.1, C.cl.2⟩
          have len : γ.ce.length = S.length := C.len
          have same : ∀ b ∈ γ1.al, b ∈ γ.al ∨ H b = none := fun b hb => .inl hb
          have C1 : Cells K γ1 (S ++ [ds]) H := ⟨cl1, List.nodup_append.mpr ⟨C.nd, by simp, fun x hx y hy => by
              rw [List.mem_singleton.mp hy]
              rintro rfl
              exact ha.2.1 hx⟩, by
              show (γ.ce ++ [a]).length = (S ++ [ds]).length
              rw [List.length_append, List.length_append, len]
              rfl, fun j b es e1 e2 => by
              replace e1 : (γ.ce ++ [a])[j]? = some b := e1
              by_cases h : j < γ.ce.length
              · rw [List.getElem?_append_left h] at e1
                rw [List.getElem?_append_left (by omega)] at e2
                obtain ⟨ys, h1, h2⟩ := C.at_ j b es e1 e2
                exact ⟨ys, h1, h2.keep C.cl Keep.refl same⟩
              · rw [List.getElem?_append_right (by omega)] at e1 e2
                have hi : j - γ.ce.length = 0 := by
                  have := (List.getElem?_eq_some_iff.mp e1).1
                  rw [List.length_singleton] at this
                  omega
                rw [← len, hi] at e2
                rw [hi] at e1
                cases e1
                cases e2
                exact ⟨xs, hq, rb.keep C.cl Keep.refl same⟩⟩
          have at1 : γ1.ce[S.length]? = some a := by
            show (γ.ce ++ [a])[S.length]? = some a
            rw [← len, List.getElem?_append_right (Nat.le_refl _), Nat.sub_self]
            rfl
          have rr1 : RrN K γ1 H vs ws ns := rr.grow C.cl same (List.prefix_append _ _)
          have sm : ∀ b ∈ ns ++ (a :: al), b ∈ (a :: ns) ++ al := fun b hb => by
            rcases List.mem_append.mp hb with h | h
            · exact List.mem_append_left _ (List.mem_cons_of_mem _ h)
            · rcases List.mem_cons.mp h with h | h
              · rw [h]; exact List.mem_append_left _ List.mem_cons_self
              · exact List.mem_append_right _ h
          obtain ⟨δ, h0, h1, h2, h3, h4, h5⟩ := ih (γ := γ1) (al := a :: al) C1 setL (setE (w' := .hd S.length) sm (List.prefix_append _ _) ⟨a, at1, rfl⟩) rr1 hnd.2 (fun b hb => by
              have hb' := hn b (List.mem_cons_of_mem _ hb)
              refine ⟨hb'.1, fun z => ?_, fun z => ?_⟩
              · rcases List.mem_append.mp z with h | h
                · exact hb'.2.1 h
                · rw [List.mem_singleton.mp h] at hb; exact hnd.1 hb
              · rcases List.mem_cons.mp z with h | h
                · rw [h] at hb; exact hnd.1 hb
                · exact hb'.2.2 h)
            (fun b hb => (List.mem_cons.mp hb).elim (fun h => by rw [h]; exact ha.1) (hal b))
            (fun b hb => (List.mem_append.mp hb).elim (fun h => List.mem_cons_of_mem _ (hce b h)) (fun h => by rw [List.mem_singleton.mp h]; exact List.mem_cons_self)) e
          refine ⟨δ, fun b hb => h0 b (List.mem_cons_of_mem _ hb), h1, (List.prefix_append _ _).trans h2, fun b hb => ?_, h4, by rw [List.length_cons, List.length_cons, h5]⟩
          rcases h3 b hb with h | h
          · rcases List.mem_append.mp h with h | h
            · exact .inl h
            · rw [List.mem_singleton.mp h]; exact .inr List.mem_cons_self
          · exact .inr (List.mem_cons_of_mem _ h)
end
end BV
set_option Elab.async false
set_option linter.all false
set_option maxRecDepth 100000
namespace BV
open PySem PySem.Spec PyProof.Rows L2

section
variable {K : PySem.W.Frag}
def gAll : List Nat → TGs
  | [] => gNil
  | i :: is => gCons (gName i) (gAll is)
theorem gAll_ok : ∀ {is : List Nat} {vs : List V} {σ : L2.St} {H : Hp} {Q : L2.St → Hp → Prop}, vs.length = is.length → Q (setAll is vs σ) H → gAll is vs σ H Q
  | [], [], _, _, _, _, q => ⟨rfl, q⟩
  | [], _ :: _, _, _, _, h, _ => by cases h
  | _ :: _, [], _, _, _, h, _ => by cases h
  | i :: is, v :: vs, σ, H, Q, h, q => ⟨v, vs, rfl, gAll_ok (by simpa using h) q⟩
/-- the core of a, b, .. = e1, e2, ..: behind the values, at a heap that has grown by an unseen tuple or not at all -/
theorem par_core {ts : List (Nat × Bool)} {β : Ad} {η η' : Env} {S S1 S' : Sto} {σ : L2.St} {H H1 H2 : Hp} {vs : List V} {ws : List W} {D : Ends} (R : SR K β η S σ H) (k : Keep β H H1) (ra : RrA K β S1 H H1 vs ws)
    (same : ∀ a o, H1 a = some o → H2 a = some o) (e : parSet ts ws η S1 = some (η', S')) (q : Behind K D β H .next η' S') : D.nx (setAll (ts.map (·.1)) vs σ) H2 ∧ vs.length = ts.length := by
  obtain ⟨ns, rr, nd, fr, c⟩ := ra
  have sub : ∀ a ∈ (β.avs ns).al, a ∈ β.al ∨ H a = none := fun a ha => (List.mem_append.mp ha).elim (fun h => .inr (fr a h)) .inl
  have R1 : SR K (β.avs ns) η S1 σ H1 := R.avoid k rfl sub c
  have k2 : Keep (β.avs ns) H1 H2 := fun a o e => .inr (same a o e)
  have c2 : Cells K (β.avs ns) S1 H2 := c.same same subR (c.cl.same same) rfl
  have R2 : SR K (β.avs ns) η S1 σ H2 := R1.keep k2 c2
  have nce : ∀ a ∈ ns, a ∉ β.ce := fun a ha z => by
    obtain ⟨xs, e⟩ := R.cl.2 a (R.cl.1 a z)
    rw [fr a ha] at e; cases e
  have rr2 : RrN K (β.avs ns) H2 vs ws ns := rr.keepA c.cl k2 subR rfl nce
  have clB : CellL β H := R.cl
  obtain ⟨δ, h0, h1, h2, h3, h4, h5⟩ := par_ok (γ := β.avs ns) (al := β.al) R2.cells R2.len R2.env rr2 nd (fun a ha => ⟨List.mem_append_left _ ha, nce a ha, fun z => by
    obtain ⟨xs, e⟩ := clB.2 a z
    rw [fr a ha] at e; cases e⟩) (fun a ha => List.mem_append_right _ ha) (fun a ha => clB.1 a ha) e
  exact ⟨q δ H2 ⟨h2, h0, fun a ha => sub a (h1 a ha)⟩ (fun a ha => (h3 a ha).elim .inl fun h => .inr (fr a h)) (k.trans (k2.ce rfl)) _ h4, h5⟩
theorem tSt_par {ts : List (Nat × Bool)} {m : MA} {D : Ends} {σ : L2.St} {H : Hp} (h : tSt K (mPar ts m) D σ H) (T : List V → Hp → Prop)
    (hT : ∀ vs H1, (∀ H2, (∀ a o, H1 a = some o → H2 a = some o) → D.nx (setAll (ts.map (·.1)) vs σ) H2) → vs.length = ts.length → T vs H1) : tVs K m σ H T := by
  obtain ⟨β, η, S, r, η', S', R, e, q⟩ := h
  unfold mPar at e
  cases e1 : m η S with
  | none => rw [e1] at e; cases e
  | some p =>
    obtain ⟨ws, S1⟩ := p
    rw [e1] at e
    simp only [Option.bind_some] at e
    cases e2 : parSet ts ws η S1 with
    | none => rw [e2] at e; cases e
    | some p =>
      rw [e2] at e
      cases e
      exact ⟨β, η, S, ws, S1, R, e1, fun vs H1 k c ra => hT vs H1 (fun H2 same => (par_core R k ra same e2 q).1) (par_core R k ra (fun _ _ h => h) e2 q).2⟩
end
section
variable {X : Cx} {pos pt pt2 : Pos} {m : MA} {tgs es : List Expr} {ts : List (Nat × Bool)} {kt k2 : Nat}
/-- more than three, or names that are captured: a tuple is made -/
theorem ds_par (hc : X.calm = true) (ha : DA X es m) (hg : PGs X tgs (gAll (ts.map (·.1)))) (hn : (assignEach tgs X.env).length = ts.length := by rfl) (hst : (assignEach tgs X.env).findIdx? (·.1) = none := by rfl)
    (hz : (decide (ts.length ≤ sizeLine)) = true := by decide) (hs : swapsWithSole [.Tuple tgs kt pt] (.Tuple es k2 pt2) pos.line X.env = pure false := by rfl) (hw : swappedStores [.Tuple tgs kt pt] (.Tuple es k2 pt2) X.env = pure none := by rfl)
    (h1 : (assignEach [.Tuple tgs kt pt] X.env).map (·.2) = [assign (.Tuple tgs kt pt) X.env] := by rfl) : DS X (.Assign [.Tuple tgs kt pt] (.Tuple es k2 pt2) pos) (mPar ts m) :=
  (ps_asg (pe_tup ha) (pg_tup hc hg hn hst) hs hw h1).imp fun D σ H h => tSt_par h _ fun vs H1 q hl =>
    ⟨by rw [hl]; exact of_decide_eq_true hz, fun p hp => ⟨p, vs, rfl, SqT.of upd_same, hl, gAll_ok (by rw [hl, List.length_map]) (q _ (same_upd hp))⟩⟩
theorem ds_par2 {i j : Nat} {bi bj : Bool} {x y : Str} {a b : Expr} {px py : Pos} (hc : X.calm = true) (hN : X.N.Nodup) (hi : X.N[i]? = some x) (hj : X.N[j]? = some y) (hij : i ≠ j)
    (hx : X.env.scope.names.lookup x = some .local) (hy : X.env.scope.names.lookup y = some .local) (ha : DA X [a, b] m)
    (hw : swappedStores [.Tuple [.Name x px, .Name y py] kt pt] (.Tuple [a, b] k2 pt2) X.env = pure (some [x, y]))
    (hs : swapsWithSole [.Tuple [.Name x px, .Name y py] kt pt] (.Tuple [a, b] k2 pt2) pos.line X.env = pure false := by rfl) : DS X (.Assign [.Tuple [.Name x px, .Name y py] kt pt] (.Tuple [a, b] k2 pt2) pos) (mPar [(i, bi), (j, bj)] m) :=
  (ps_par hc hN hi hj hij hx hy ha hw hs).imp fun D σ H h => tSt_par h _ fun vs H1 q hl => by
    match vs, hl with
    | [v, w], _ => exact ⟨v, w, rfl, q H1 fun _ _ h => h⟩
theorem ds_par3 {i j l : Nat} {bi bj bl : Bool} {x y z : Str} {a b c : Expr} {px py pz : Pos} (hc : X.calm = true) (hN : X.N.Nodup) (hi : X.N[i]? = some x) (hj : X.N[j]? = some y) (hl : X.N[l]? = some z) (hij : i ≠ j) (hil : i ≠ l) (hjl : j ≠ l)
    (hx : X.env.scope.names.lookup x = some .local) (hy : X.env.scope.names.lookup y = some .local) (hz : X.env.scope.names.lookup z = some .local) (ha : DA X [a, b, c] m)
    (hw : swappedStores [.Tuple [.Name x px, .Name y py, .Name z pz] kt pt] (.Tuple [a, b, c] k2 pt2) X.env = pure (some [x, y, z]))
    (hs : swapsWithSole [.Tuple [.Name x px, .Name y py, .Name z pz] kt pt] (.Tuple [a, b, c] k2 pt2) pos.line X.env = pure false := by rfl) : DS X (.Assign [.Tuple [.Name x px, .Name y py, .Name z pz] kt pt] (.Tuple [a, b, c] k2 pt2) pos) (mPar [(i, bi), (j, bj), (l, bl)] m) :=
  (ps_par3 hc hN hi hj hl hij hil hjl hx hy hz ha hw hs).imp fun D σ H h => tSt_par h _ fun vs H1 q hl => by
    match vs, hl with
    | [v, w, u], _ => exact ⟨v, w, u, rfl, q H1 fun _ _ h => h⟩
end

/-! ### walks -/
abbrev Gd := Option (Nat × List D)
abbrev MI := Env → Sto → Option (List D × Gd × Sto)
/-- the list that is walked is as it was -/
def gok (g : Gd) (_ : List D) (S : Sto) : Prop := match g with
  | none => True
  | some (n, cs) => S[n]? = some cs
def Turns (K : PySem.W.Frag) (β : Ad) (H0 : Hp) (J : It) (ds : List D) (g : Gd) : Prop := ∃ (G : Hp → Prop) (Y : Nat → Hp → V → Hp → Prop), Walk J ds.length G Y ∧
  ∀ β' S1 H1, Grown β β' H0 → (∀ a ∈ β'.ce, a ∈ β.ce ∨ H0 a = none) → KeepA β H0 H1 → Cells K β' S1 H1 → gok g ds S1 → G H1 ∧ ∀ i x H2, i < ds.length → Y i H1 x H2 → (∀ a o, H1 a = some o → H2 a = some o) ∧ ∃ d, ds[i]? = some d ∧ Bp K β' H2 x d
def tI (K : PySem.W.Frag) (mi : MI) : TI := fun σ H R => ∃ β η S ds g S', SR K β η S σ H ∧ mi η S = some (ds, g, S') ∧ ∀ J H', Keep β H H' → Cells K β S' H' → Turns K β H' J ds g → R J H'
abbrev DI (X : Cx) (tg iter : Expr) (mi : MI) : Prop := PI X tg iter (tI X.K mi)
theorem _root_.L2.PI.imp {X : Cx} {tg e : Expr} {t t' : TI} (h : PI X tg e t) (i : ∀ σ H Q, t' σ H Q → t σ H Q) : PI X tg e t' := ⟨fun pins s σ H Q I q => h.run pins s σ H Q I (i σ H Q q)⟩
section
variable {X : Cx} {tg : Expr}
def iSeq (K : PySem.W.Frag) (tl : TE) : TI := fun σ H R => tl σ H fun x H1 => ∃ a xs, x = .ref a ∧ ((SqL K H1 a xs ∧ R (Itl K a) H1) ∨ (SqT K H1 a xs ∧ R (Itt K a) H1))
theorem pi_seq {l : Expr} {tl : TE} (hl : PE X l tl) : PI X tg l (iSeq X.K tl) := by
  constructor
  intro pins s σ H R I h
  refine thn (hl.run pins s σ H _ I h) fun v s1 hh => ?_
  obtain ⟨x, H1, I1, r1, a, xs, rfl, q⟩ := hh
  cases r1
  have fresh : ∀ b ∈ [s1.heap.objs.size], FpOk X pins H1 b := fun b hb => by
    rw [List.mem_singleton.mp hb]
    exact I1.fpOk (Nat.le_refl _) (I1.hok.fresh (Nat.le_refl _))
  rcases q with ⟨hq, q⟩ | ⟨hq, q⟩
  · obtain ⟨its, rv, p, hz⟩ := I1.list hq
    exact wpAny_pyIter_list p.isList ⟨_, _, _, _, H1, rfl, I1.kept (t' := s1.toks) (fun b o e => Heap.get?_push_of_some _ e), turn_list a _, ⟨_, Heap.get?_push_size _ rfl, rfl, rfl⟩, fresh, q⟩
  · obtain ⟨its, rv, p, hz⟩ := I1.tuple hq
    exact wpAny_pyIter_tuple (show s1.heap.IsTuple a its.toArray from p) ⟨_, _, _, _, H1, rfl, I1.kept (t' := s1.toks) (fun b o e => Heap.get?_push_of_some _ e), turn_tuple a _, ⟨_, Heap.get?_push_size _ rfl, rfl, rfl⟩, fresh, q⟩
/-- what is walked: its items, the cell that must not change -/
def walked (S : Sto) : W → Option (List D × Gd)
  | .dat (.list ds) => some (ds, none)
  | .dat (.tuple ds) => some (ds, none)
  | .new ds => some (ds, none)
  | .frz ds => some (ds, none)
  | .hd n => S[n]?.map fun ds => (ds, some (n, ds))
  | _ => none
def mWalk (m : ME) : MI := fun η S => (m η S).bind fun p => (walked p.2 p.1).map fun q => (q.1, q.2, p.2)
theorem walkL {K : PySem.W.Frag} {a : Addr} {n : Nat} : Walk (Itl K a) n (fun H => ∃ xs, SqL K H a xs ∧ xs.length = n) (fun i H x H' => H' = H ∧ ∀ xs, SqL K H a xs → xs[i]? = some x) :=
  ⟨fun i _ hi ⟨xs, q, hn⟩ => ⟨xs, xs[i], q, by simp [hn, hi]⟩, fun _ ⟨xs, q, hn⟩ => ⟨xs, q, Nat.le_of_eq hn⟩, fun _ _ _ _ _ _ y => y⟩
theorem turns_fix {K : PySem.W.Frag} {β : Ad} {H : Hp} {J : It} {xs : List V} {ds : List D} {G : Hp → Prop} (c : CellL β H) (w : Walk J xs.length G (YAt xs)) (r : BpA K β H xs ds) (hG : ∀ H1, KeepA β H H1 → G H1) : Turns K β H J ds none := by
  rw [r.len] at w
  refine ⟨G, YAt xs, w, fun β' S1 H1 g gc k c1 _ => ⟨hG H1 k, fun i x H2 hi y => ?_⟩⟩
  obtain ⟨rfl, y⟩ := y
  obtain ⟨d, e1, e2⟩ := r.get y
  exact ⟨fun _ _ h => h, d, e1, e2.keepA c k g.new⟩
theorem tI_walk {K : PySem.W.Frag} {m : ME} {σ : L2.St} {H : Hp} {R : It → Hp → Prop} (h : tI K (mWalk m) σ H R) : iSeq K (tV K m) σ H R := by
  obtain ⟨β, η, S, ds, g, S', SR0, e, q⟩ := h
  unfold mWalk at e
  cases e1 : m η S with
  | none => rw [e1] at e; cases e
  | some p =>
    obtain ⟨w, S1⟩ := p
    rw [e1] at e
    simp only [Option.bind_some] at e
    refine ⟨β, η, S, w, S1, SR0, e1, fun v H1 k c r => ?_⟩
    have rv := r.rv SR0.cl
    have viaL : ∀ es : List D, lview S1 w = some es → ds = es → g = none → S' = S1 → (∀ a, v = .ref a → a ∉ β.al) → ∃ a xs, v = V.ref a ∧ ((SqL K H1 a xs ∧ R (Itl K a) H1) ∨ (SqT K H1 a xs ∧ R (Itt K a) H1)) := fun es e2 e3 e4 e5 na => by
      subst e3 e4 e5
      obtain ⟨a, xs, rfl, hx, rx⟩ := rv.list c e2
      refine ⟨a, xs, rfl, .inl ⟨SqL.of hx, q _ _ k c (turns_fix c.cl walk_list rx fun H2 k2 => ?_)⟩⟩
      exact SqL.of ((k2 _ _ hx).elim (fun z => absurd z (na a rfl)) id)
    cases w with
    | dat d =>
      cases d with
      | list es =>
        cases e
        refine viaL es rfl rfl rfl rfl fun a ea z => ?_
        subst ea
        cases (show Bp K β H1 (.ref a) (.list es) from r) with
        | lst n _ _ => exact n z
      | tuple es =>
        cases e
        obtain ⟨a, xs, rfl, hx, rx⟩ := rv.tuple (ds := es) rfl
        exact ⟨a, xs, rfl, .inr ⟨hx, q _ _ k c (turns_fix c.cl walk_tup rx fun H2 k2 => BV.SqT.keep c.cl k2 hx)⟩⟩
      | none => cases e
      | bool _ => cases e
      | int _ => cases e
      | str _ => cases e
      | dict _ => cases e
    | new es =>
      cases e
      obtain ⟨b, xs, eb, nb, hb, rb⟩ := rv
      refine viaL es rfl rfl rfl rfl fun a ea z => ?_
      subst ea
      have e2 : a = b := V.ref.inj eb
      rw [e2] at z
      exact nb z
    | frz es =>
      cases e
      obtain ⟨a, xs, rfl, hx, rx⟩ := r
      exact ⟨a, xs, rfl, .inl ⟨hx.sq, q _ _ k c (turns_fix c.cl walk_list rx fun H2 k2 => (hx.keep c.cl k2).sq)⟩⟩
    | hd n =>
      cases es : S1[n]? with
      | none => rw [walked, es] at e; cases e
      | some es' =>
        rw [walked, es] at e
        cases e
        obtain ⟨a, ea, rfl⟩ := r
        obtain ⟨xs, hx, rx⟩ := c.at_ n a _ ea es
        refine ⟨a, xs, rfl, .inl ⟨SqL.of hx, q _ _ k c ⟨_, _, walkL, fun β' S2 H2 g gc k2 c2 hg => ?_⟩⟩⟩
        have ea' : β'.ce[n]? = some a := by
          obtain ⟨t, ht⟩ := g.ce
          rw [← ht, List.getElem?_append_left (List.getElem?_eq_some_iff.mp ea).1]
          exact ea
        obtain ⟨ys, hy, ry⟩ := c2.at_ n a _ ea' hg
        refine ⟨⟨ys, SqL.of hy, ry.len⟩, fun i x H3 hi y => ?_⟩
        obtain ⟨rfl, y⟩ := y
        obtain ⟨d, d1, d2⟩ := ry.get (y ys (SqL.of hy))
        exact ⟨fun _ _ h => h, d, d1, d2⟩
theorem di_seq {e : Expr} {m : ME} (he : DE X e m) : DI X tg e (mWalk m) := (pi_seq he).imp fun σ H R h => tI_walk h
/-- range -/
def intsR (lo : Int) (n : Nat) : List D := (List.range n).map fun (i : Nat) => .int (lo + (i : Int))
def mRange1 (m : MA) : MI := fun η S => (m η S).bind fun p => match p.1 with
  | [w] => (iview w).bind fun j => if -(2 ^ 62) ≤ j ∧ j < 2 ^ 62 then some (intsR 0 j.toNat, none, p.2) else none
  | _ => none
def mRange2 (m : MA) : MI := fun η S => (m η S).bind fun p => match p.1 with
  | [w, u] => (iview w).bind fun i => (iview u).bind fun j => if -(2 ^ 62) ≤ i ∧ i < 2 ^ 62 ∧ -(2 ^ 62) ≤ j ∧ j < 2 ^ 62 then some (intsR i (j - i).toNat, none, p.2) else none
  | _ => none
theorem turns_range {K : PySem.W.Frag} {β : Ad} {H : Hp} {lo : Int} {n : Nat} : Turns K β H (Itr lo n) (intsR lo n) none := by
  refine ⟨fun _ => True, YFn fun i => .int (lo + i), by rw [show (intsR lo n).length = n by simp [intsR]]; exact walk_range, fun β' S1 H1 _ _ _ _ _ => ⟨trivial, fun i x H2 hi y => ?_⟩⟩
  obtain ⟨rfl, rfl⟩ := y
  refine ⟨fun _ _ h => h, .int (lo + (i : Int)), ?_, .int _⟩
  have hi' : i < n := by simpa [intsR] using hi
  simp [intsR, hi']
theorem di_range1 {a : Expr} {m : MA} {p pos : Pos} (hg : Gl X "range") (hm : X.mg "range" = none) (ha : DA X [a] m) (hs : starEach [a] X.env = [(false, eval a X.env)] := by rfl) : DI X tg (.Call (.Name "range" p) [a] [] pos) (mRange1 m) :=
  (pi_range1 hg hm ha hs).imp fun σ H R ⟨β, η, S, ds, g, S', SR0, e, q⟩ => by
    unfold mRange1 at e
    cases e1 : m η S with
    | none => rw [e1] at e; cases e
    | some p =>
      obtain ⟨ws, S1⟩ := p
      rw [e1] at e
      simp only [Option.bind_some] at e
      refine ⟨β, η, S, ws, S1, SR0, e1, fun vs H1 k c r => ?_⟩
      split at e
      · rename_i w
        obtain ⟨v, rfl, rv⟩ := (r.rva SR0.cl).one
        cases h : iview w with
        | none => rw [h] at e; cases e
        | some j =>
          rw [h] at e
          simp only [Option.bind_some] at e
          split at e
          · rename_i hb
            cases e
            have ev := rv.int h
            subst ev
            exact ⟨j, rfl, hb.1, hb.2, q _ _ k c turns_range⟩
          · cases e
      · cases e
theorem di_range2 {a b : Expr} {m : MA} {p pos : Pos} (hg : Gl X "range") (hm : X.mg "range" = none) (ha : DA X [a, b] m) (hs : starEach [a, b] X.env = [(false, eval a X.env), (false, eval b X.env)] := by rfl) (hs2 : starEach [b] X.env = [(false, eval b X.env)] := by rfl) : DI X tg (.Call (.Name "range" p) [a, b] [] pos) (mRange2 m) :=
  (pi_range2 hg hm ha hs hs2).imp fun σ H R ⟨β, η, S, ds, g, S', SR0, e, q⟩ => by
    unfold mRange2 at e
    cases e1 : m η S with
    | none => rw [e1] at e; cases e
    | some p =>
      obtain ⟨ws, S1⟩ := p
      rw [e1] at e
      simp only [Option.bind_some] at e
      refine ⟨β, η, S, ws, S1, SR0, e1, fun vs H1 k c r => ?_⟩
      split at e
      · rename_i w u
        obtain ⟨v, v', rfl, rv, rv'⟩ := (r.rva SR0.cl).two
        cases h : iview w with
        | none => rw [h] at e; cases e
        | some i =>
          rw [h] at e
          simp only [Option.bind_some] at e
          cases h' : iview u with
          | none => rw [h'] at e; cases e
          | some j =>
            rw [h'] at e
            simp only [Option.bind_some] at e
            split at e
            · rename_i hb
              cases e
              have ev := rv.int h
              have ev' := rv'.int h'
              subst ev ev'
              exact ⟨i, j, rfl, hb, q _ _ k c turns_range⟩
            · cases e
      · cases e
end
end BV
set_option Elab.async false
set_option linter.all false
set_option maxRecDepth 100000
namespace BV
open PySem PySem.Spec PyProof.Rows L2

/-! ### for -/
open Classical in
noncomputable def loopF (g : Gd) (all : List D) (b : BE) (mb : MS) : List D → MS
  | [] => fun η S => if gok g all S then some (.next, η, S) else none
  | d :: ds => fun η S => if gok g all S then (b d η).bind fun η1 => (mb η1 S).bind fun p => match p.1 with
    | .next => loopF g all b mb ds p.2.1 p.2.2
    | .cont => loopF g all b mb ds p.2.1 p.2.2
    | .brk => some (.next, p.2.1, p.2.2)
    | .ret w => some (.ret w, p.2.1, p.2.2)
    else none
noncomputable def mFor (mi : MI) (b : BE) (mb : MS) : MS := fun η S => (mi η S).bind fun p => loopF p.2.1 p.1 b mb p.1 η p.2.2
section
variable {K : PySem.W.Frag}
theorem loopF_gok {g : Gd} {all : List D} {b : BE} {mb : MS} {ds : List D} {η : Env} {S : Sto} {r : Fl × Env × Sto} (e : loopF g all b mb ds η S = some r) : gok g all S := by
  cases ds with
  | nil =>
    unfold loopF at e
    split at e
    · assumption
    · cases e
  | cons d ds =>
    unfold loopF at e
    split at e
    · assumption
    · cases e
theorem Grown.trans {β β1 β2 : Ad} {H H1 : Hp} (g : Grown β β1 H) (g' : Grown β1 β2 H1) (back : ∀ a, H1 a = none → H a = none) : Grown β β2 H :=
  ⟨g.ce.trans g'.ce, fun a ha => g'.al a (g.al a ha), fun a ha => (g'.new a ha).elim (fun z => g.new a z) fun z => .inr (back a z)⟩
theorem tSt_for {mi : MI} {b : BE} {vs : List Nat} {mb : MS} {D : Ends} {σ : L2.St} {H : Hp} (h : tSt K (mFor mi b mb) D σ H) : tFor (tI K mi) (tG K b vs) (tSt K mb) D σ H := by
  obtain ⟨β, η, S, r, η', S', R, e, q⟩ := h
  unfold mFor at e
  cases e1 : mi η S with
  | none => rw [e1] at e; cases e
  | some p =>
    obtain ⟨ds, g, S1⟩ := p
    rw [e1] at e
    simp only [Option.bind_some] at e
    refine ⟨β, η, S, ds, g, S1, R, e1, fun J H1 k c T => ?_⟩
    obtain ⟨G, Y, wk, tn⟩ := T
    have R1 := R.keep k c
    have q1 := q.after R.cl R1.cl Grown.refl (fun _ h => .inl h) k
    -- the state between two turns
    let Pv : Nat → L2.St → Hp → Prop := fun i σ2 H2 => ∃ β2 η2 S2, Grown β β2 H1 ∧ (∀ a ∈ β2.ce, a ∈ β.ce ∨ H1 a = none) ∧ Keep β H1 H2 ∧ SR K β2 η2 S2 σ2 H2 ∧ loopF g ds b mb (ds.drop i) η2 S2 = some (r, η', S')
    have back : ∀ β2 (H2 : Hp), Grown β β2 H1 → Keep β H1 H2 → CellL β2 H2 → ∀ a, H2 a = none → H1 a = none := fun β2 H2 gr k2 c2 a en => by
      cases q : H1 a with
      | none => rfl
      | some o =>
        rcases k2 a o q with z | z
        · obtain ⟨xs, q1⟩ := c2.2 a (gr.al a (R1.cl.1 a z))
          rw [en] at q1; cases q1
        · rw [en] at z; cases z
    refine for_it wk Pv ⟨β, η, S1, Grown.refl, fun _ h => .inl h, Keep.refl, R1, by rw [List.drop_zero]; exact e⟩ (fun i σ2 H2 _ p => ?_) (fun i x σ2 H2 H3 hi p y => ?_) fun σ2 H2 p => ?_
    · obtain ⟨β2, η2, S2, gr, gc, k2, R2, e2⟩ := p
      exact (tn β2 S2 H2 gr gc (k2.al R1.cl) R2.cells (loopF_gok e2)).1
    · obtain ⟨β2, η2, S2, gr, gc, k2, R2, e2⟩ := p
      have hd : ds.drop i = ds[i] :: ds.drop (i + 1) := List.drop_eq_getElem_cons hi
      have hg := loopF_gok e2
      obtain ⟨_, tn2⟩ := tn β2 S2 H2 gr gc (k2.al R1.cl) R2.cells hg
      obtain ⟨same, d, d1, d2⟩ := tn2 i x H3 hi y
      rw [List.getElem?_eq_getElem hi] at d1
      cases d1
      rw [hd] at e2
      unfold loopF at e2
      rw [if_pos hg] at e2
      have k3 : Keep β2 H2 H3 := fun a o e => .inr (same a o e)
      have R3 : SR K β2 η2 S2 σ2 H3 := R2.keep k3 (R2.cells.same same subR (R2.cl.same same) rfl)
      cases e3 : b ds[i] η2 with
      | none => rw [e3] at e2; cases e2
      | some η3 =>
        rw [e3] at e2
        simp only [Option.bind_some] at e2
        refine ⟨β2, η2, S2, _, η3, R3, d2, e3, fun σ4 R4 _ => ?_⟩
        cases e4 : mb η3 S2 with
        | none => rw [e4] at e2; cases e2
        | some p =>
          obtain ⟨r4, η4, S4⟩ := p
          rw [e4] at e2
          simp only [Option.bind_some] at e2
          have k23 : Keep β H1 H3 := fun a o e => by
            rcases k2 a o e with z | z
            · exact .inl z
            · exact .inr (same a o z)
          refine ⟨β2, η3, S2, r4, η4, S4, R4, e4, fun β5 H5 g5 gc5 k5 => ?_⟩
          have bk := back β2 H3 gr k23 R3.cl
          have G5 : Grown β β5 H1 := gr.trans g5 bk
          have GC5 : ∀ a ∈ β5.ce, a ∈ β.ce ∨ H1 a = none := fun a ha => (gc5 a ha).elim (fun z => gc a z) fun z => .inr (bk a z)
          have K5 : Keep β H1 H5 := gr.keep k23 R1.cl k5 gc
          cases r4 with
          | next => exact fun σ5 R5 => ⟨β5, η4, S4, G5, GC5, K5, R5, e2⟩
          | cont => exact fun σ5 R5 => ⟨β5, η4, S4, G5, GC5, K5, R5, e2⟩
          | brk =>
            cases e2
            exact fun σ5 R5 => q1 β5 H5 G5 GC5 K5 σ5 R5
          | ret w =>
            cases e2
            exact q1.after R1.cl R3.cl gr gc k23 β5 H5 g5 gc5 k5
    · obtain ⟨β2, η2, S2, gr, gc, k2, R2, e2⟩ := p
      rw [List.drop_length] at e2
      unfold loopF at e2
      split at e2
      · cases e2
        exact q1 β2 H2 gr gc k2 σ2 R2
      · cases e2
end
section
variable {X : Cx} {tg iter : Expr} {body : List Stmt} {mi : MI} {b : BE} {vs : List Nat} {mb : MS} {pos : Pos}
theorem ds_for (hp : PassesOwn (model X.prog X.w) X.A X.env X.xe) (hc : X.calm = true) (hi : DI X tg iter mi) (hg : DG X tg b vs) (hb : DSs X body mb)
    (hs : ∀ x, foldedSetIterable iter X.env x = pure x := by intro _; rfl) : DS X (.For tg iter body [] pos) (mFor mi b mb) := (ps_for hp hc hi hg hb hs).imp fun D σ H h => tSt_for h
end

/-! ### comprehensions -/
def wipeE (η : Env) : List Nat → Env
  | [] => η
  | v :: vs => (wipeE η vs).set v none
theorem SR.forget {K : PySem.W.Frag} {β : Ad} {η : Env} {S : Sto} {σ : L2.St} {H : Hp} {i : Nat} (R : SR K β η S σ H) : SR K β (η.set i none) S (σ.set i none) H :=
  ⟨R.cells, by rw [List.length_set, List.length_set]; exact R.len, fun j w e => by
    by_cases h : j = i
    · subst h
      have hj : j < η.length := by
        have := (List.getElem?_eq_some_iff.mp e).1
        rwa [List.length_set] at this
      rw [List.getElem?_set_self hj] at e
      cases e
    · rw [List.getElem?_set_ne (Ne.symm h)] at e
      obtain ⟨v, e1, q⟩ := R.env j w e
      exact ⟨v, by rw [List.getElem?_set_ne (Ne.symm h)]; exact e1, q⟩⟩
theorem SR.wipe {K : PySem.W.Frag} {β : Ad} {η : Env} {S : Sto} {σ : L2.St} {H : Hp} (R : SR K β η S σ H) : ∀ us : List Nat, SR K β (wipeE η us) S (L2.wipe σ us) H
  | [] => R
  | u :: us => (R.wipe us).forget
open Classical in
noncomputable def loopC (g : Gd) (all : List D) (b : BE) (mt : MT) (me : ME) : List D → Env → Sto → List D → Option (List D × Sto)
  | [], _, S, acc => if gok g all S then some (acc, S) else none
  | d :: ds, η, S, acc => if gok g all S then (b d η).bind fun η1 => (mt η1 S).bind fun p => if p.1 = true then (me η1 p.2).bind fun q => (ditem q.1).bind fun d' => if acc.length < sizeLine then loopC g all b mt me ds η q.2 (acc ++ [d']) else none
      else loopC g all b mt me ds η p.2 acc
    else none
noncomputable def mLc (us : List Nat) (mi : MI) (b : BE) (mt : MT) (me : ME) : ME := fun η S => (mi η S).bind fun p => (loopC p.2.1 p.1 b mt me p.1 (wipeE η us) p.2.2 []).map fun q => (.new q.1, q.2)
def mYes : MT := fun _ S => some (true, S)
abbrev DTs (X : Cx) (ifs : List Expr) (m : MT) : Prop := PTs X ifs (tT X.K m)
theorem dts_nil {X : Cx} : DTs X [] mYes := ⟨fun pins s σ H Q I h => pts_nil.run pins s σ H Q I (tT_const h)⟩
theorem dts_one {X : Cx} {c : Expr} {m : MT} (h : DT X c m) : DTs X [c] m := pts_one h
section
variable {K : PySem.W.Frag}
theorem loopC_gok {g : Gd} {all : List D} {b : BE} {mt : MT} {me : ME} {ds : List D} {η : Env} {S : Sto} {acc : List D} {r : List D × Sto} (e : loopC g all b mt me ds η S acc = some r) : gok g all S := by
  cases ds with
  | nil =>
    unfold loopC at e
    split at e
    · assumption
    · cases e
  | cons d ds =>
    unfold loopC at e
    split at e
    · assumption
    · cases e
/-- D changes, nothing leans on it -/
theorem cells_out {β : Ad} {S : Sto} {H : Hp} {Dd : Addr} {ys : List V} (c : Cells K β S H) (hd : Dd ∈ β.al) (nc : Dd ∉ β.ce) : Cells K β S (upd H Dd (.lst ys)) ∧ KeepA β H (upd H Dd (.lst ys)) := by
  have k : KeepA β H (L2.upd H Dd (.lst ys)) := fun a o e => by
    by_cases h : a = Dd
    · subst h; exact .inl hd
    · exact .inr (by rw [upd_ne h]; exact e)
  refine ⟨⟨⟨c.cl.1, fun a ha => ?_⟩, c.nd, c.len, fun i a ds e1 e2 => ?_⟩, k⟩
  · by_cases h : a = Dd
    · subst h; exact ⟨ys, upd_same⟩
    · obtain ⟨xs, e⟩ := c.cl.2 a ha
      exact ⟨xs, by rw [upd_ne h]; exact e⟩
  · obtain ⟨xs, h1, h2⟩ := c.at_ i a ds e1 e2
    have h : a ≠ Dd := fun z => nc (z ▸ List.mem_of_getElem? e1)
    exact ⟨xs, by rw [upd_ne h]; exact h1, h2.keepA c.cl k subR⟩
end
end BV
set_option Elab.async false
set_option linter.all false
set_option maxRecDepth 100000
namespace BV
open PySem PySem.Spec PyProof.Rows L2

section
variable {K : PySem.W.Frag}
theorem wipe_get {us : List Nat} {σ : L2.St} {i : Nat} : (wipe σ us)[i]? = if i ∈ us ∧ i < σ.length then some none else σ[i]? := by
  induction us with
  | nil => simp [wipe]
  | cons u us ih =>
    unfold wipe
    by_cases h : u = i
    · subst h
      by_cases hl : u < σ.length
      · rw [List.getElem?_set_self (by rw [wipe_length]; exact hl), if_pos ⟨List.mem_cons_self, hl⟩]
      · rw [if_neg (fun z => hl z.2), List.getElem?_eq_none (by rw [List.length_set, wipe_length]; omega), List.getElem?_eq_none (by omega)]
    · rw [List.getElem?_set_ne h, ih]
      have : (i ∈ us ∧ i < σ.length) ↔ (i ∈ u :: us ∧ i < σ.length) := ⟨fun z => ⟨List.mem_cons_of_mem _ z.1, z.2⟩, fun z => ⟨(List.mem_cons.mp z.1).resolve_left (Ne.symm h), z.2⟩⟩
      simp only [this]
theorem wipe_wipe {us : List Nat} {σ : L2.St} : wipe (wipe σ us) us = wipe σ us := by
  refine List.ext_getElem? fun i => ?_
  rw [wipe_get, wipe_get, wipe_length]
  split <;> rfl
theorem tV_lc {us vs : List Nat} (hvs : ∀ i ∈ vs, i ∈ us) {mi : MI} {b : BE} {mt : MT} {me : ME} {σ : L2.St} {H : Hp} {Q : VK} (h : tV K (mLc us mi b mt me) σ H Q) : tLc (tI K mi) (tG K b vs) (tT K mt) (tV K me) us σ H Q := by
  obtain ⟨β, η, S, w, S', R, e, q⟩ := h
  unfold mLc at e
  cases e1 : mi η S with
  | none => rw [e1] at e; cases e
  | some p =>
    obtain ⟨ds, g, S1⟩ := p
    rw [e1] at e
    simp only [Option.bind_some] at e
    cases e0 : loopC g ds b mt me ds (wipeE η us) S1 [] with
    | none => rw [e0] at e; cases e
    | some fin =>
      rw [e0] at e
      cases e
      refine ⟨β, η, S, ds, g, S1, R, e1, fun J H1 k c T Dd hD => ?_⟩
      obtain ⟨G, Y, wk, tn⟩ := T
      have R1 := R.keep k c
      have nD : Dd ∉ β.al := notin_of R1.cl hD
      have nDc : Dd ∉ (β.av Dd).ce := fun z => nD (R1.cl.1 Dd z)
      have gr : Grown β (β.av Dd) H1 := ⟨List.prefix_refl _, fun a ha => List.mem_cons_of_mem _ ha, subA hD⟩
      let Pv : Nat → Hp → Prop := fun i H2 => ∃ S2 acc xs, Keep β H1 H2 ∧ H2 Dd = some (.lst xs) ∧ BpA K (β.av Dd) H2 xs acc ∧ Cells K (β.av Dd) S2 H2 ∧ loopC g ds b mt me (ds.drop i) (wipeE η us) S2 acc = some fin
      have st : ∀ {S2 : Sto} {H2 : Hp}, Keep β H1 H2 → Cells K (β.av Dd) S2 H2 → SR K (β.av Dd) (wipeE η us) S2 (wipe σ us) H2 := fun k2 c2 => (R1.wipe us).avoid k2 rfl (subA hD) c2
      refine lc_it wk Pv ⟨S1, [], [], keep_upd hD, upd_same, .nil, c.same (same_upd hD) (subA hD) ((c.cl.same (same_upd hD)).av upd_same) rfl, by rw [List.drop_zero]; exact e0⟩ (fun i H2 _ p => ?_) (fun i x H2 H3 hi p y => ?_) fun H2 p => ?_
      · obtain ⟨S2, acc, xs, k2, hx, rx, c2, e2⟩ := p
        exact (tn (β.av Dd) S2 H2 gr (fun a h => .inl h) (k2.al R1.cl) c2 (loopC_gok e2)).1
      · obtain ⟨S2, acc, xs, k2, hx, rx, c2, e2⟩ := p
        have hg := loopC_gok e2
        obtain ⟨_, tn2⟩ := tn (β.av Dd) S2 H2 gr (fun a h => .inl h) (k2.al R1.cl) c2 hg
        obtain ⟨same, d, d1, d2⟩ := tn2 i x H3 hi y
        have hd : ds.drop i = ds[i] :: ds.drop (i + 1) := List.drop_eq_getElem_cons hi
        rw [List.getElem?_eq_getElem hi] at d1
        cases d1
        rw [hd] at e2
        unfold loopC at e2
        rw [if_pos hg] at e2
        have k23 : Keep (β.av Dd) H2 H3 := fun a o e => .inr (same a o e)
        have k13 : Keep β H1 H3 := k2.trans (k23.ce rfl)
        have c3 : Cells K (β.av Dd) S2 H3 := c2.same same subR (c2.cl.same same) rfl
        have hx3 : H3 Dd = some (.lst xs) := same _ _ hx
        have rx3 : BpA K (β.av Dd) H3 xs acc := rx.keep c2.cl k23 subR
        cases e3 : b ds[i] (wipeE η us) with
        | none => rw [e3] at e2; cases e2
        | some η3 =>
          rw [e3] at e2
          simp only [Option.bind_some] at e2
          refine ⟨β.av Dd, wipeE η us, S2, _, η3, st k13 c3, d2, e3, fun σ4 R4 si => ⟨?_, ?_⟩⟩
          · rw [si us hvs, wipe_wipe]
          · cases e4 : mt η3 S2 with
            | none => rw [e4] at e2; cases e2
            | some p =>
              obtain ⟨bo, S4⟩ := p
              rw [e4] at e2
              simp only [Option.bind_some] at e2
              refine ⟨β.av Dd, η3, S2, bo, S4, R4, e4, fun H4 k4 c4 => ?_⟩
              have k14 : Keep β H1 H4 := k13.trans (k4.ce rfl)
              have hx4 : H4 Dd = some (.lst xs) := (k4 _ _ hx3).elim (fun z => absurd z nDc) id
              have rx4 : BpA K (β.av Dd) H4 xs acc := rx3.keep c3.cl k4 subR
              cases bo with
              | false =>
                dsimp only
                rw [if_neg Bool.false_ne_true]
                exact ⟨S4, acc, xs, k14, hx4, rx4, c4, e2⟩
              | true =>
                dsimp only
                rw [if_pos rfl] at e2 ⊢
                cases e5 : me η3 S4 with
                | none => rw [e5] at e2; cases e2
                | some p =>
                  obtain ⟨w5, S5⟩ := p
                  rw [e5] at e2
                  simp only [Option.bind_some] at e2
                  cases e6 : ditem w5 with
                  | none => rw [e6] at e2; cases e2
                  | some d6 =>
                    rw [e6] at e2
                    simp only [Option.bind_some] at e2
                    split at e2
                    · rename_i hz
                      refine ⟨β.av Dd, η3, S4, w5, S5, R4.keep k4 c4, e5, fun v5 H5 k5 c5 r5 => ?_⟩
                      have hx5 : H5 Dd = some (.lst xs) := (k5 _ _ hx4).elim (fun z => absurd z nDc) id
                      have rx5 : BpA K (β.av Dd) H5 xs acc := rx4.keep c4.cl k5 subR
                      have b5 : Bp K (β.av Dd) H5 v5 d6 := (r5.rv c4.cl).item e6
                      obtain ⟨c6, k6⟩ := cells_out (ys := xs ++ [v5]) c5 List.mem_cons_self nDc
                      refine ⟨xs, hx5, by rw [rx5.len]; exact hz, S5, acc ++ [d6], xs ++ [v5], ?_, upd_same, ?_, c6, e2⟩
                      · exact fun a o e => ((k14.trans (k5.ce rfl)) a o e).imp id fun z => by rw [upd_ne (ne_of_none e hD)]; exact z
                      · exact (rx5.append (.cons b5 .nil)).keepA c5.cl k6 subR
                    · cases e2
      · obtain ⟨S2, acc, xs, k2, hx, rx, c2, e2⟩ := p
        rw [List.drop_length] at e2
        unfold loopC at e2
        split at e2
        · cases e2
          have cl2 : CellL β H2 := ⟨R1.cl.1, fun b hb => c2.cl.2 b (List.mem_cons_of_mem _ hb)⟩
          exact q _ H2 (k.trans k2) (c2.sub rfl (fun b hb => List.mem_cons_of_mem _ hb) cl2) ⟨Dd, xs, rfl, k.free R1.cl hD, hx, rx, c2⟩
        · cases e2
end
end BV
set_option Elab.async false
set_option linter.all false
set_option maxRecDepth 100000
namespace BV
open PySem PySem.Spec PyProof.Rows L2

section
variable {X : Cx} {elt tg iter : Expr} {ifs : List Expr} {scope : Scope} {own : List (Str × Nat)} {pos : Pos} {mi : MI} {b : BE} {vs : List Nat} {mt : MT} {me : ME}
/-- what a comprehension's block asks, for whatever it is started at -/
abbrev Blk (X : Cx) (scope : Scope) (P : Cx → Prop) : Prop := ∀ (s : Shared) (H : Hp) (C : Addr) (cl : List (Str × Addr)) (fp : List Addr), P (X.blk s H scope (compEnvC scope cl C X.env) fp)
theorem de_lc (own : List (Str × Nat)) (hc : X.calm = true) (hN : X.N.Nodup) (hi : DI X tg iter mi) (ok : BlkOk X.N X.env.scope scope own) (hg : Blk X scope fun Z => DG Z tg b vs) (ht : Blk X scope fun Z => DTs Z ifs mt) (he : Blk X scope fun Z => DE Z elt me)
    (hvs : (vs.all fun i => decide (i ∈ own.map (·.2))) = true := by decide) (hs : ∀ x, foldedSetIterable iter X.env x = pure x := by intro _; rfl) : DE X (.ListComp elt [⟨tg, iter, ifs, 0⟩] scope pos) (mLc (own.map (·.2)) mi b mt me) :=
  (pe_lc hc hN hi ok hg ht he hs).imp fun σ H Q h => tV_lc (fun i hi => of_decide_eq_true (List.all_eq_true.mp hvs i hi)) h
theorem ds_setLc (own : List (Str × Nat)) {i : Nat} {y : Str} {py spos : Pos} (hc : X.calm = true) (hN : X.N.Nodup) (hy : X.N[i]? = some y) (hyl : X.env.scope.names.lookup y = some .local)
    (hsw : swapsWith (.ListComp elt [⟨tg, iter, ifs, 0⟩] scope pos) (some (.Name y py)) spos.line X.env = pure true) (hi : DI X tg iter mi) (ok : BlkOk X.N X.env.scope scope own) (hg : Blk X scope fun Z => DG Z tg b vs) (ht : Blk X scope fun Z => DTs Z ifs mt) (he : Blk X scope fun Z => DE Z elt me)
    (hvs : (vs.all fun i => decide (i ∈ own.map (·.2))) = true := by decide) (hs : ∀ x, foldedSetIterable iter X.env x = pure x := by intro _; rfl) : DS X (.Assign [.Name y py] (.ListComp elt [⟨tg, iter, ifs, 0⟩] scope pos) spos) (mSet i (mLc (own.map (·.2)) mi b mt me)) :=
  (ps_setLc hc hN hy hyl hsw hi ok hg ht he hs).imp fun D σ H h => tV_lc (fun i hi => of_decide_eq_true (List.all_eq_true.mp hvs i hi)) (tSt_set h)
theorem ds_cellLc (own : List (Str × Nat)) {i : Nat} {y : Str} {py spos : Pos} (hc : X.calm = true) (hN : X.N.Nodup) (hy : X.N[i]? = some y) (hyl : X.env.scope.names.lookup y = some .local)
    (hsw : swapsWith (.ListComp elt [⟨tg, iter, ifs, 0⟩] scope pos) (some (.Name y py)) spos.line X.env = pure true) (hi : DI X tg iter mi) (ok : BlkOk X.N X.env.scope scope own) (hg : Blk X scope fun Z => DG Z tg b vs) (ht : Blk X scope fun Z => DTs Z ifs mt) (he : Blk X scope fun Z => DE Z elt me)
    (hvs : (vs.all fun i => decide (i ∈ own.map (·.2))) = true := by decide) (hs : ∀ x, foldedSetIterable iter X.env x = pure x := by intro _; rfl) : DS X (.Assign [.Name y py] (.ListComp elt [⟨tg, iter, ifs, 0⟩] scope pos) spos) (mCell i (mLc (own.map (·.2)) mi b mt me)) :=
  (ps_setLc hc hN hy hyl hsw hi ok hg ht he hs).imp fun D σ H h => tV_lc (fun i hi => of_decide_eq_true (List.all_eq_true.mp hvs i hi)) (tSt_cell h)
end

/-! ### a def -/
/-- the cells that were there ahead of the call -/
def closeW (n : Nat) (S : Sto) : W → Option W
  | .hd i => if i < n then some (.hd i) else S[i]?.map .new
  | w => some w
def bodyF (N : Nat) (m : MS) : MF := fun ws S => (m (ws.map some ++ List.replicate (N - ws.length) none) S).bind fun p => match p.1 with
  | .ret w => (closeW S.length p.2.2 w).map fun w' => (w', p.2.2.take S.length)
  | .next => some (.dat .none, p.2.2.take S.length)
  | _ => none
section
variable {K : PySem.W.Frag}
theorem RwA.len {β : Ad} {H : Hp} {vs : List V} {ws : List W} (h : RwA K β H vs ws) : vs.length = ws.length := by
  induction h with
  | nil => rfl
  | cons _ _ ih => rw [List.length_cons, List.length_cons, ih]
theorem RwA.get {β : Ad} {H : Hp} {vs : List V} {ws : List W} (h : RwA K β H vs ws) : ∀ {i : Nat} {w : W}, ws[i]? = some w → ∃ v, vs[i]? = some v ∧ Rw K β H v w := by
  induction h with
  | nil => intro i w e; simp at e
  | cons r _ ih =>
    intro i w e
    cases i with
    | zero => cases e; exact ⟨_, rfl, r⟩
    | succ i => exact ih (by simpa using e)
theorem sr_start {N : List Str} {β : Ad} {S : Sto} {H : Hp} {vs : List V} {ws : List W} (c : Cells K β S H) (r : RwA K β H vs ws) (hN : vs.length ≤ N.length) : SR K β (ws.map some ++ List.replicate (N.length - ws.length) none) S (L2.start N vs) H := by
  refine ⟨c, ?_, fun i w e => ?_⟩
  · unfold L2.start
    simp only [List.length_append, List.length_map, List.length_replicate, r.len]
  · by_cases h : i < ws.length
    · rw [List.getElem?_append_left (by rw [List.length_map]; exact h), List.getElem?_map] at e
      cases e1 : ws[i]? with
      | none => rw [e1] at e; cases e
      | some w1 =>
        rw [e1] at e
        cases e
        obtain ⟨v, e2, q⟩ := r.get e1
        refine ⟨v, ?_, q⟩
        unfold L2.start
        rw [List.getElem?_append_left (by rw [List.length_map, r.len]; exact h), List.getElem?_map, e2]
        rfl
    · rw [List.getElem?_append_right (by rw [List.length_map]; omega)] at e
      have := List.mem_of_getElem? e
      rw [List.mem_replicate] at this
      exact absurd this.2 (fun z => by cases z)
/-- behind the body: the new cells are dropped -/
theorem Cells.drop {β β' : Ad} {S : Sto} {H' : Hp} (c : Cells K β' S H') (n : Nat) (hn : n = β.ce.length) (pre : β.ce <+: β'.ce) (al : ∀ a ∈ β.al, a ∈ β'.al) (c0 : ∀ a ∈ β.ce, a ∈ β.al) : Cells K β (S.take n) H' := by
  obtain ⟨t, ht⟩ := pre
  refine ⟨⟨c0, fun a ha => c.cl.2 a (al a ha)⟩, ?_, ?_, fun i a ds e1 e2 => ?_⟩
  · have := c.nd
    rw [← ht] at this
    exact (List.nodup_append.mp this).1
  · have := c.len
    rw [← ht, List.length_append] at this
    rw [List.length_take]
    omega
  · have hi : i < β.ce.length := (List.getElem?_eq_some_iff.mp e1).1
    have e3 : β'.ce[i]? = some a := by rw [← ht, List.getElem?_append_left hi]; exact e1
    have e4 : S[i]? = some ds := by
      rw [List.getElem?_take] at e2
      split at e2
      · exact e2
      · cases e2
    obtain ⟨xs, h1, h2⟩ := c.at_ i a ds e3 e4
    exact ⟨xs, h1, h2.keep c.cl Keep.refl fun b hb => .inl (al b hb)⟩
variable {P : Program} {w : World} {mg : Str → Option Value} {base : Heap}
/-- THE RULE: a def does what its body says -/
theorem fn_ok {x qual : Str} {st : Stmt} {f : Addr} {fd : FuncData} {N ps : List Str} {k n : Nat} {m : MS} (F : Fun K x qual st f fd) (sc : FnScope N ps (defScope st)) (hn : N.length = n) (hl : ps.length ≤ n)
    (hbody : ∀ (cdv : Value) (A : Around) (outer : List PySem.Env) (s : Shared) (H : Hp) (E : XK), A.guards = some [] → Room k (A.deeper (envOfC qual (defScope st) s.heap.objs.size f cdv)) →
      DSs (cxOf CX0 P w K mg base N qual (defScope st) f cdv A outer s H E).nox (defBody st) m) : FnG P w K mg base CX0 (k + 1) f fd ps (spF K ps.length (bodyF n m)) := by
  subst hn
  refine F.okG sc (fun vs H Q E h => h.1) (fun cdv A outer s H vs Q E hG hr h => ?_)
  obtain ⟨hlen, β, S, ws, wr, S', c, r, e, q⟩ := h
  refine ⟨_, hbody cdv A outer s H E hG hr, ?_⟩
  unfold bodyF at e
  cases e1 : m (ws.map some ++ List.replicate (N.length - ws.length) none) S with
  | none => rw [e1] at e; cases e
  | some p =>
    obtain ⟨fl, η1, S1⟩ := p
    rw [e1] at e
    simp only [Option.bind_some] at e
    refine ⟨β, _, S, fl, η1, S1, sr_start c r (by rw [hlen]; exact hl), e1, fun β' H' g gc k => ?_⟩
    cases fl with
    | brk => cases e
    | cont => cases e
    | next =>
      cases e
      exact fun σ' R' => q .non H' k (R'.cells.drop (β := β) _ c.len.symm g.ce g.al c.cl.1) .non
    | ret w1 =>
      intro v c1 r1
      have cd : Cells K β (S1.take S.length) H' := c1.drop (β := β) _ c.len.symm g.ce g.al c.cl.1
      have c1a := c1.cl
      cases w1 with
      | dat d =>
        cases e
        exact q v H' k cd (Bp.keep c1.cl Keep.refl (fun a ha => .inl (g.al a ha)) (show Bp K β' H' v d from r1))
      | frz ds =>
        cases e
        obtain ⟨a, xs, e1, e2, e3⟩ := r1
        exact q v H' k cd ⟨a, xs, e1, e2, e3.keep c1.cl Keep.refl fun a ha => .inl (g.al a ha)⟩
      | new ds =>
        cases e
        obtain ⟨a, xs, e1, e2, e3, e4, e5⟩ := r1
        have sub : ∀ b ∈ (β.av a).al, b ∈ (β'.av a).al := fun b hb => by
          rcases List.mem_cons.mp hb with h | h
          · rw [h]; exact List.mem_cons_self
          · exact List.mem_cons_of_mem _ (g.al b h)
        exact q v H' k cd ⟨a, xs, e1, e2, e3, e4.keep e5.cl Keep.refl fun b hb => .inl (sub b hb), e5.drop (β := β.av a) _ c.len.symm g.ce sub fun b hb => List.mem_cons_of_mem _ (c.cl.1 b hb)⟩
      | hd i =>
        replace e : (closeW S.length S1 (.hd i)).map (fun w' => (w', S1.take S.length)) = some (wr, S') := e
        unfold closeW at e
        dsimp only at e
        obtain ⟨a, ea, rfl⟩ := r1
        by_cases hi : i < S.length
        · rw [if_pos hi] at e
          cases e
          refine q _ H' k cd ⟨a, ?_, rfl⟩
          obtain ⟨t, ht⟩ := g.ce
          rw [← ht, List.getElem?_append_left (by rw [c.len]; exact hi)] at ea
          exact ea
        · rw [if_neg hi] at e
          cases es : S1[i]? with
          | none => rw [es] at e; cases e
          | some ds =>
            rw [es] at e
            cases e
            obtain ⟨xs, hx, rx⟩ := c1.at_ i a ds ea es
            have am : a ∈ β'.ce := List.mem_of_getElem? ea
            have an : H a = none := (gc a am).resolve_left fun z => by
              obtain ⟨t, ht⟩ := g.ce
              obtain ⟨j, hj, ej⟩ := List.getElem_of_mem z
              have : β'.ce[j]? = some a := by rw [← ht, List.getElem?_append_left hj, List.getElem?_eq_getElem hj, ej]
              have := nodup_ixA c1.nd ea this
              rw [c.len] at hj
              omega
            have sub : ∀ b ∈ (β.av a).al, b ∈ β'.al := fun b hb => by
              rcases List.mem_cons.mp hb with h | h
              · rw [h]; exact c1.cl.1 a am
              · exact g.al b h
            exact q _ H' k cd ⟨a, xs, rfl, an, hx, rx.keep c1.cl Keep.refl fun b hb => .inl (sub b hb), c1.drop (β := β.av a) _ c.len.symm g.ce sub fun b hb => List.mem_cons_of_mem _ (c.cl.1 b hb)⟩
end
end BV
set_option Elab.async false
set_option linter.all false
set_option maxRecDepth 100000
namespace BV
open PySem PySem.Spec PyProof.Rows L2

/-! ### comprehensions over two -/
open Classical in
noncomputable def loopC2 (g : Gd) (all : List D) (b : BE) (mt : MT) (us1 : List Nat) (mi1 : MI) (b1 : BE) (mt1 : MT) (me : ME) : List D → Env → Sto → List D → Option (List D × Sto)
  | [], _, S, acc => if gok g all S then some (acc, S) else none
  | d :: ds, η, S, acc => if gok g all S then (b d η).bind fun η1 => (mt η1 S).bind fun p => if p.1 = true then (mi1 η1 p.2).bind fun q => (loopC q.2.1 q.1 b1 mt1 me q.1 (wipeE η1 us1) q.2.2 acc).bind fun r => loopC2 g all b mt us1 mi1 b1 mt1 me ds η r.2 r.1
      else loopC2 g all b mt us1 mi1 b1 mt1 me ds η p.2 acc
    else none
noncomputable def mLc2 (us us1 : List Nat) (mi : MI) (b : BE) (mt : MT) (mi1 : MI) (b1 : BE) (mt1 : MT) (me : ME) : ME := fun η S => (mi η S).bind fun p => (loopC2 p.2.1 p.1 b mt us1 mi1 b1 mt1 me p.1 (wipeE η us) p.2.2 []).map fun q => (.new q.1, q.2)
section
variable {K : PySem.W.Frag}
theorem loopC2_gok {g : Gd} {all : List D} {b : BE} {mt : MT} {us1 : List Nat} {mi1 : MI} {b1 : BE} {mt1 : MT} {me : ME} {ds : List D} {η : Env} {S : Sto} {acc : List D} {r : List D × Sto} (e : loopC2 g all b mt us1 mi1 b1 mt1 me ds η S acc = some r) : gok g all S := by
  cases ds with
  | nil =>
    unfold loopC2 at e
    split at e
    · assumption
    · cases e
  | cons d ds =>
    unfold loopC2 at e
    split at e
    · assumption
    · cases e
/-- one comprehension's turns, from any heap in which the list D under way stands -/
theorem lc_turns {us vs : List Nat} (hvs : ∀ i ∈ vs, i ∈ us) {g : Gd} {b : BE} {mt : MT} {me : ME} {ds : List D} {η : Env} {σ : L2.St} {β : Ad} {H1 Hs : Hp} {Dd : Addr} {J : It} {S1 : Sto} {acc0 : List D} {fin : List D × Sto} {xs0 : List V} {Qd : Hp → Prop}
    (cl1 : CellL β H1) (hD : H1 Dd = none) (ks : Keep β H1 Hs) (R : ∀ {S2 : Sto} {H2 : Hp}, Keep β H1 H2 → KeepA (β.av Dd) Hs H2 → Cells K (β.av Dd) S2 H2 → SR K (β.av Dd) (wipeE η us) S2 (wipe σ us) H2)
    (T : Turns K (β.av Dd) Hs J ds g) (hx0 : Hs Dd = some (.lst xs0)) (rx0 : BpA K (β.av Dd) Hs xs0 acc0) (c0 : Cells K (β.av Dd) S1 Hs)
    (e0 : loopC g ds b mt me ds (wipeE η us) S1 acc0 = some fin)
    (hd : ∀ H2 xs, Keep β H1 H2 → KeepA (β.av Dd) Hs H2 → H2 Dd = some (.lst xs) → BpA K (β.av Dd) H2 xs fin.1 → Cells K (β.av Dd) fin.2 H2 → Qd H2) :
    ∃ W1 : Nat → Nat → Hp → Prop, (∃ m, W1 0 m Hs) ∧ ∀ j k H, W1 j k H →
      (J.stop j H ∧ Qd H) ∨ (J.go j H ∧ ∃ Nx1 : Hp → Prop, (∀ H', Nx1 H' → ∃ k', k' < k ∧ W1 (j + 1) k' H') ∧ ∀ x H', J.yld j H x H' → tG K b vs x (wipe σ us) H' fun σ3 H5 => wipe σ3 us = wipe σ us ∧ tT K mt σ3 H5 fun bb H6 =>
        if bb = true then tV K me σ3 H6 fun y H7 => ∃ acc, H7 Dd = some (.lst acc) ∧ acc.length < sizeLine ∧ Nx1 (upd H7 Dd (.lst (acc ++ [y]))) else Nx1 H6) := by
  obtain ⟨G, Y, wk, tn⟩ := T
  have nD : Dd ∉ β.al := notin_of cl1 hD
  have nDc : Dd ∉ (β.av Dd).ce := fun z => nD (cl1.1 Dd z)
  let Pv : Nat → Hp → Prop := fun i H2 => ∃ S2 acc xs, Keep β H1 H2 ∧ KeepA (β.av Dd) Hs H2 ∧ H2 Dd = some (.lst xs) ∧ BpA K (β.av Dd) H2 xs acc ∧ Cells K (β.av Dd) S2 H2 ∧ loopC g ds b mt me (ds.drop i) (wipeE η us) S2 acc = some fin
  have kaR : ∀ H, KeepA (β.av Dd) H H := fun H a o e => .inr e
  have kaT : ∀ {A B C : Hp}, KeepA (β.av Dd) A B → KeepA (β.av Dd) B C → KeepA (β.av Dd) A C := fun k k' a o e => (k a o e).elim .inl (k' a o)
  refine ⟨fun i m H => m = ds.length - i ∧ i ≤ ds.length ∧ Pv i H, ⟨_, rfl, Nat.zero_le _, S1, acc0, xs0, ks, kaR _, hx0, rx0, c0, by rw [List.drop_zero]; exact e0⟩, ?_⟩
  rintro i m H2 ⟨rfl, hi, S2, acc, xs, k2, ka2, hx, rx, c2, e2⟩
  have hg := loopC_gok e2
  obtain ⟨hG, tn2⟩ := tn (β.av Dd) S2 H2 Grown.refl (fun a h => .inl h) ka2 c2 hg
  by_cases hlt : i < ds.length
  · refine .inr ⟨wk.goes i H2 hlt hG, Pv (i + 1), fun H' p' => ⟨ds.length - (i + 1), by omega, rfl, hlt, p'⟩, fun x H3 y => ?_⟩
    obtain ⟨same, d, d1, d2⟩ := tn2 i x H3 hlt (wk.yields i H2 x H3 hlt hG y)
    have hdr : ds.drop i = ds[i] :: ds.drop (i + 1) := List.drop_eq_getElem_cons hlt
    rw [List.getElem?_eq_getElem hlt] at d1
    cases d1
    rw [hdr] at e2
    unfold loopC at e2
    rw [if_pos hg] at e2
    have k23 : Keep (β.av Dd) H2 H3 := fun a o e => .inr (same a o e)
    have k13 : Keep β H1 H3 := k2.trans (k23.ce rfl)
    have ka3 := kaT ka2 (k23.al c2.cl)
    have c3 : Cells K (β.av Dd) S2 H3 := c2.same same subR (c2.cl.same same) rfl
    have hx3 : H3 Dd = some (.lst xs) := same _ _ hx
    have rx3 : BpA K (β.av Dd) H3 xs acc := rx.keep c2.cl k23 subR
    cases e3 : b ds[i] (wipeE η us) with
    | none => rw [e3] at e2; cases e2
    | some η3 =>
      rw [e3] at e2
      simp only [Option.bind_some] at e2
      refine ⟨β.av Dd, wipeE η us, S2, _, η3, R k13 ka3 c3, d2, e3, fun σ4 R4 si => ⟨?_, ?_⟩⟩
      · rw [si us hvs, wipe_wipe]
      · cases e4 : mt η3 S2 with
        | none => rw [e4] at e2; cases e2
        | some p =>
          obtain ⟨bo, S4⟩ := p
          rw [e4] at e2
          simp only [Option.bind_some] at e2
          refine ⟨β.av Dd, η3, S2, bo, S4, R4, e4, fun H4 k4 c4 => ?_⟩
          have k14 : Keep β H1 H4 := k13.trans (k4.ce rfl)
          have ka4 := kaT ka3 (k4.al c3.cl)
          have hx4 : H4 Dd = some (.lst xs) := (k4 _ _ hx3).elim (fun z => absurd z nDc) id
          have rx4 : BpA K (β.av Dd) H4 xs acc := rx3.keep c3.cl k4 subR
          cases bo with
          | false =>
            dsimp only
            rw [if_neg Bool.false_ne_true]
            exact ⟨S4, acc, xs, k14, ka4, hx4, rx4, c4, e2⟩
          | true =>
            dsimp only
            rw [if_pos rfl] at e2 ⊢
            cases e5 : me η3 S4 with
            | none => rw [e5] at e2; cases e2
            | some p =>
              obtain ⟨w5, S5⟩ := p
              rw [e5] at e2
              simp only [Option.bind_some] at e2
              cases e6 : ditem w5 with
              | none => rw [e6] at e2; cases e2
              | some d6 =>
                rw [e6] at e2
                simp only [Option.bind_some] at e2
                split at e2
                · rename_i hz
                  refine ⟨β.av Dd, η3, S4, w5, S5, R4.keep k4 c4, e5, fun v5 H5 k5 c5 r5 => ?_⟩
                  have hx5 : H5 Dd = some (.lst xs) := (k5 _ _ hx4).elim (fun z => absurd z nDc) id
                  have rx5 : BpA K (β.av Dd) H5 xs acc := rx4.keep c4.cl k5 subR
                  have b5 : Bp K (β.av Dd) H5 v5 d6 := (r5.rv c4.cl).item e6
                  obtain ⟨c6, k6⟩ := cells_out (ys := xs ++ [v5]) c5 List.mem_cons_self nDc
                  refine ⟨xs, hx5, by rw [rx5.len]; exact hz, S5, acc ++ [d6], xs ++ [v5], ?_, kaT (kaT ka4 (k5.al c4.cl)) k6, upd_same, ?_, c6, e2⟩
                  · exact fun a o e => ((k14.trans (k5.ce rfl)) a o e).imp id fun z => by rw [upd_ne (ne_of_none e hD)]; exact z
                  · exact (rx5.append (.cons b5 .nil)).keepA c5.cl k6 subR
                · cases e2
  · have e : i = ds.length := by omega
    subst e
    rw [List.drop_length] at e2
    unfold loopC at e2
    rw [if_pos hg] at e2
    cases e2
    exact .inl ⟨wk.stops H2 hG, hd H2 xs k2 ka2 hx rx c2⟩
theorem Rw.keepA {β : Ad} {H H' : Hp} {v : V} {w : W} (c : CellL β H) (k : KeepA β H H') (h : Rw K β H v w) : Rw K β H' v w := by
  cases w with
  | dat d => exact Bp.keepA c k subR h
  | new ds => exact h.elim
  | hd n => exact h
  | frz ds =>
    obtain ⟨a, xs, e, q, r⟩ := h
    exact ⟨a, xs, e, q.keep c k, BpA.keepA c k subR r⟩
theorem tV_lc2 {us us1 vs vs1 : List Nat} (hvs : ∀ i ∈ vs, i ∈ us) (hvs1 : ∀ i ∈ vs1, i ∈ us1) {mi mi1 : MI} {b b1 : BE} {mt mt1 : MT} {me : ME} {σ : L2.St} {H : Hp} {Q : VK} (h : tV K (mLc2 us us1 mi b mt mi1 b1 mt1 me) σ H Q) :
    tLc2 (tI K mi) (tG K b vs) (tT K mt) (tI K mi1) (tG K b1 vs1) (tT K mt1) (tV K me) us us1 σ H Q := by
  obtain ⟨β, η, S, w, S', R, e, q⟩ := h
  unfold mLc2 at e
  cases e1 : mi η S with
  | none => rw [e1] at e; cases e
  | some p =>
    obtain ⟨ds, g, S1⟩ := p
    rw [e1] at e
    simp only [Option.bind_some] at e
    cases e0 : loopC2 g ds b mt us1 mi1 b1 mt1 me ds (wipeE η us) S1 [] with
    | none => rw [e0] at e; cases e
    | some fin =>
      rw [e0] at e
      cases e
      refine ⟨β, η, S, ds, g, S1, R, e1, fun J H1 k c T Dd hD => ?_⟩
      obtain ⟨G, Y, wk, tn⟩ := T
      have R1 := R.keep k c
      have nD : Dd ∉ β.al := notin_of R1.cl hD
      have nDc : Dd ∉ (β.av Dd).ce := fun z => nD (R1.cl.1 Dd z)
      have gr : Grown β (β.av Dd) H1 := ⟨List.prefix_refl _, fun a ha => List.mem_cons_of_mem _ ha, subA hD⟩
      let Pv : Nat → Hp → Prop := fun i H2 => ∃ S2 acc xs, Keep β H1 H2 ∧ H2 Dd = some (.lst xs) ∧ BpA K (β.av Dd) H2 xs acc ∧ Cells K (β.av Dd) S2 H2 ∧ loopC2 g ds b mt us1 mi1 b1 mt1 me (ds.drop i) (wipeE η us) S2 acc = some fin
      have st : ∀ {S2 : Sto} {H2 : Hp}, Keep β H1 H2 → Cells K (β.av Dd) S2 H2 → SR K (β.av Dd) (wipeE η us) S2 (wipe σ us) H2 := fun k2 c2 => (R1.wipe us).avoid k2 rfl (subA hD) c2
      refine ⟨fun i m H => m = ds.length - i ∧ i ≤ ds.length ∧ Pv i H, ⟨_, rfl, Nat.zero_le _, S1, [], [], keep_upd hD, upd_same, .nil, c.same (same_upd hD) (subA hD) ((c.cl.same (same_upd hD)).av upd_same) rfl, by rw [List.drop_zero]; exact e0⟩, ?_⟩
      rintro i m H2 ⟨rfl, hi, S2, acc, xs, k2, hx, rx, c2, e2⟩
      have hg := loopC2_gok e2
      obtain ⟨hG, tn2⟩ := tn (β.av Dd) S2 H2 gr (fun a h => .inl h) (k2.al R1.cl) c2 hg
      by_cases hlt : i < ds.length
      · refine .inr ⟨wk.goes i H2 hlt hG, Pv (i + 1), fun H' p' => ⟨ds.length - (i + 1), by omega, rfl, hlt, p'⟩, fun x H3 y => ?_⟩
        obtain ⟨same, d, d1, d2⟩ := tn2 i x H3 hlt (wk.yields i H2 x H3 hlt hG y)
        have hdr : ds.drop i = ds[i] :: ds.drop (i + 1) := List.drop_eq_getElem_cons hlt
        rw [List.getElem?_eq_getElem hlt] at d1
        cases d1
        rw [hdr] at e2
        unfold loopC2 at e2
        rw [if_pos hg] at e2
        have k23 : Keep (β.av Dd) H2 H3 := fun a o e => .inr (same a o e)
        have k13 : Keep β H1 H3 := k2.trans (k23.ce rfl)
        have c3 : Cells K (β.av Dd) S2 H3 := c2.same same subR (c2.cl.same same) rfl
        have hx3 : H3 Dd = some (.lst xs) := same _ _ hx
        have rx3 : BpA K (β.av Dd) H3 xs acc := rx.keep c2.cl k23 subR
        cases e3 : b ds[i] (wipeE η us) with
        | none => rw [e3] at e2; cases e2
        | some η3 =>
          rw [e3] at e2
          simp only [Option.bind_some] at e2
          refine ⟨β.av Dd, wipeE η us, S2, _, η3, st k13 c3, d2, e3, fun σ4 R4 si => ⟨?_, ?_⟩⟩
          · rw [si us hvs, wipe_wipe]
          · cases e4 : mt η3 S2 with
            | none => rw [e4] at e2; cases e2
            | some p =>
              obtain ⟨bo, S4⟩ := p
              rw [e4] at e2
              simp only [Option.bind_some] at e2
              refine ⟨β.av Dd, η3, S2, bo, S4, R4, e4, fun H4 k4 c4 => ?_⟩
              have k14 : Keep β H1 H4 := k13.trans (k4.ce rfl)
              have hx4 : H4 Dd = some (.lst xs) := (k4 _ _ hx3).elim (fun z => absurd z nDc) id
              have rx4 : BpA K (β.av Dd) H4 xs acc := rx3.keep c3.cl k4 subR
              have R5 := R4.keep k4 c4
              cases bo with
              | false =>
                dsimp only
                rw [if_neg Bool.false_ne_true]
                exact ⟨S4, acc, xs, k14, hx4, rx4, c4, e2⟩
              | true =>
                dsimp only
                rw [if_pos rfl] at e2 ⊢
                cases e5 : mi1 η3 S4 with
                | none => rw [e5] at e2; cases e2
                | some p =>
                  obtain ⟨ds1, g1, S5⟩ := p
                  rw [e5] at e2
                  simp only [Option.bind_some] at e2
                  cases e6 : loopC g1 ds1 b1 mt1 me ds1 (wipeE η3 us1) S5 acc with
                  | none => rw [e6] at e2; cases e2
                  | some fin1 =>
                    rw [e6] at e2
                    simp only [Option.bind_some] at e2
                    refine ⟨β.av Dd, η3, S4, ds1, g1, S5, R5, e5, fun J1 H5 k5 c5 T1 => ?_⟩
                    have k15 : Keep β H1 H5 := k14.trans (k5.ce rfl)
                    have hx5 : H5 Dd = some (.lst xs) := (k5 _ _ hx4).elim (fun z => absurd z nDc) id
                    have rx5 : BpA K (β.av Dd) H5 xs acc := rx4.keep c4.cl k5 subR
                    have R6 := R5.keep k5 c5
                    refine lc_turns hvs1 R1.cl hD k15 (fun {S7 H7} _ ka c7 => ?_) T1 hx5 rx5 c5 e6 fun H7 xs7 k17 _ hx7 rx7 c7 => ⟨fin1.2, fin1.1, xs7, k17, hx7, rx7, c7, e2⟩
                    refine ⟨c7, (R6.wipe us1).len, fun n w e => ?_⟩
                    obtain ⟨v, v1, v2⟩ := (R6.wipe us1).env n w e
                    exact ⟨v, v1, v2.keepA R6.cl ka⟩
      · have e : i = ds.length := by omega
        subst e
        rw [List.drop_length] at e2
        unfold loopC2 at e2
        rw [if_pos hg] at e2
        cases e2
        have cl2 : CellL β H2 := ⟨R1.cl.1, fun b hb => c2.cl.2 b (List.mem_cons_of_mem _ hb)⟩
        exact .inl ⟨wk.stops H2 hG, q _ H2 (k.trans k2) (c2.sub rfl (fun b hb => List.mem_cons_of_mem _ hb) cl2) ⟨Dd, xs, rfl, k.free R1.cl hD, hx, rx, c2⟩⟩
end
section
variable {X : Cx} {elt tg iter tg1 iter1 : Expr} {ifs ifs1 : List Expr} {scope : Scope} {own : List (Str × Nat)} {pos : Pos} {mi mi1 : MI} {b b1 : BE} {vs vs1 us1 : List Nat} {mt mt1 : MT} {me : ME}
theorem de_lc2 (own : List (Str × Nat)) (us1 : List Nat) (hc : X.calm = true) (hN : X.N.Nodup) (hi : DI X tg iter mi) (ok : BlkOk X.N X.env.scope scope own) (hu : (us1.all fun i => decide (i ∈ own.map (·.2))) = true) (hg : Blk X scope fun Z => DG Z tg b vs) (ht : Blk X scope fun Z => DTs Z ifs mt)
    (hi1 : Blk X scope fun Z => DI Z tg1 iter1 mi1) (hg1 : Blk X scope fun Z => DG Z tg1 b1 vs1) (ht1 : Blk X scope fun Z => DTs Z ifs1 mt1) (he : Blk X scope fun Z => DE Z elt me)
    (hvs : (vs.all fun i => decide (i ∈ own.map (·.2))) = true := by decide) (hvs1 : (vs1.all fun i => decide (i ∈ us1)) = true := by decide) (hs : ∀ x, foldedSetIterable iter X.env x = pure x := by intro _; rfl) (hs1 : ∀ env x, foldedSetIterable iter1 env x = pure x := by intro _ _; rfl) :
    DE X (.ListComp elt [⟨tg, iter, ifs, 0⟩, ⟨tg1, iter1, ifs1, 0⟩] scope pos) (mLc2 (own.map (·.2)) us1 mi b mt mi1 b1 mt1 me) :=
  (pe_lc2 hc hN hi ok (fun i hi => of_decide_eq_true (List.all_eq_true.mp hu i hi)) hg ht hi1 hg1 ht1 he hs hs1).imp fun σ H Q h => tV_lc2 (fun i hi => of_decide_eq_true (List.all_eq_true.mp hvs i hi)) (fun i hi => of_decide_eq_true (List.all_eq_true.mp hvs1 i hi)) h
end

/-! ### the law -/
theorem law_sp {K : PySem.W.Frag} {F : MF} {H : Hp} {a : Addr} {ns : List Int} (hO : Only H) (hS : SqL K H a (ns.map V.int)) (h : ∃ S', F [.frz (ns.map .int)] [] = some (.dat (.bool true), S')) :
    spF K 1 F [.ref a] H (fun v _ => v = .bl true) fun _ _ _ => False := by
  obtain ⟨S', e⟩ := h
  have hF : SqF K H a (ns.map V.int) := by
    rcases hS with (z | ⟨o, z⟩) | z
    · rcases hO a with y | ⟨o, xs, y⟩
      · rw [y] at z; cases z
      · rw [y] at z; cases z
    · exact .inl ⟨o, z⟩
    · exact .inr z
  have inl_ : ∀ (l : List Int), BpA K ⟨[], []⟩ H (l.map V.int) (l.map PyData.int) := fun l => by
    induction l with
    | nil => exact .nil
    | cons i l ih => exact .cons (.int i) ih
  refine ⟨rfl, ⟨[], []⟩, [], [.frz (ns.map .int)], .dat (.bool true), S', ⟨⟨(fun _ h => by cases h), (fun _ h => by cases h)⟩, List.nodup_nil, rfl, (fun i a ds h => by cases h)⟩, .cons ⟨a, _, rfl, hF, inl_ ns⟩ .nil, e, fun v H' _ _ r => ?_⟩
  exact Rv.bool (w := .dat (.bool true)) (show Rv K ⟨[], []⟩ H' v (.dat (.bool true)) from r) rfl
end BV
set_option Elab.async false
set_option linter.all false
set_option maxRecDepth 100000
namespace BV
open PySem PySem.Spec PyProof.Rows L2

/-! ### slices, zip, written dicts -/
abbrev MO := Env → Sto → Option (Option Int × Sto)
def tO (K : PySem.W.Frag) (m : MO) : TO := fun σ H Q => ∃ β η S o S', SR K β η S σ H ∧ m η S = some (o, S') ∧ ∀ H', Keep β H H' → Cells K β S' H' → Q o H'
abbrev DO_ (X : Cx) (e : Option Expr) (m : MO) : Prop := PO X e (tO X.K m)
def oNone : MO := fun _ S => some (none, S)
def oSome (m : ME) : MO := fun η S => (m η S).bind fun p => (iview p.1).map fun i => (some i, p.2)
def mCut (ma : ME) (lo hi : MO) : ME := fun η S => (ma η S).bind fun p => (lo η p.2).bind fun l => (hi η l.2).bind fun h => (fSl p.1 l.1 h.1 h.2).map fun w => (w, h.2)
section
variable {X : Cx} {e : Expr} {pos p2 : Pos} {lo hi : Option Expr} {ma m : ME} {ml mh : MO}
theorem _root_.L2.PO.imp {X : Cx} {e : Option Expr} {t t' : TO} (h : PO X e t) (i : ∀ σ H Q, t' σ H Q → t σ H Q) : PO X e t' := by
  constructor
  intro pins s σ H Q I q
  exact h.run pins s σ H Q I (i σ H Q q)
theorem do_none : DO_ X none oNone := po_none.imp fun σ H Q ⟨β, η, S, o, S', R, e, q⟩ => by
  cases e
  exact q H Keep.refl R.cells
theorem do_some (h : DE X e m) : DO_ X (some e) (oSome m) := (po_some h).imp fun σ H Q ⟨β, η, S, o, S', R, e, q⟩ => by
  unfold oSome at e
  cases e1 : m η S with
  | none => rw [e1] at e; cases e
  | some p =>
    obtain ⟨w, S1⟩ := p
    rw [e1] at e
    simp only [Option.bind_some] at e
    refine ⟨β, η, S, w, S1, R, e1, fun v H1 k c r => ?_⟩
    cases h : iview w with
    | none => rw [h] at e; cases e
    | some i =>
      rw [h] at e
      cases e
      exact ⟨i, (r.rv R.cl).int h, q H1 k c⟩
theorem de_cut (he : DE X e ma) (hl : DO_ X lo ml) (hu : DO_ X hi mh) : DE X (.Subscript e (.Slice lo hi none p2) pos) (mCut ma ml mh) := (pe_slice sl_all he hl hu).imp fun σ H Q ⟨β, η, S, w, S', R, e, q⟩ => by
  unfold mCut at e
  cases e1 : ma η S with
  | none => rw [e1] at e; cases e
  | some p =>
    obtain ⟨w1, S1⟩ := p
    rw [e1] at e
    simp only [Option.bind_some] at e
    refine ⟨β, η, S, w1, S1, R, e1, fun v1 H1 k1 c1 r1 => ?_⟩
    cases e2 : ml η S1 with
    | none => rw [e2] at e; cases e
    | some p =>
      obtain ⟨o2, S2⟩ := p
      rw [e2] at e
      simp only [Option.bind_some] at e
      refine ⟨β, η, S1, o2, S2, R.keep k1 c1, e2, fun H2 k2 c2 => ?_⟩
      cases e3 : mh η S2 with
      | none => rw [e3] at e; cases e
      | some p =>
        obtain ⟨o3, S3⟩ := p
        rw [e3] at e
        simp only [Option.bind_some] at e
        refine ⟨β, η, S2, o3, S3, (R.keep k1 c1).keep k2 c2, e3, fun H3 k3 c3 => ?_⟩
        cases e4 : fSl w1 o2 o3 S3 with
        | none => rw [e4] at e; cases e
        | some w4 =>
          rw [e4] at e
          cases e
          exact fSl_ok c3 (((r1.rv R.cl).keep c1.cl k2).keep c2.cl k3) e4 fun v H4 k4 c4 r4 => q v H4 (((k1.trans k2).trans k3).trans k4) c4 (r4.back c3.cl ((k1.trans k2).trans k3))
/-- zip(a, b), both lists or both tuples -/
def isT : W → Option (List D)
  | .dat (.tuple ds) => some ds
  | _ => none
def zipD : List D → List D → List D
  | a :: as, b :: bs => .tuple [a, b] :: zipD as bs
  | _, _ => []
theorem zipD_len : ∀ as bs : List D, (zipD as bs).length = min as.length bs.length
  | [], _ => by simp [zipD]
  | _ :: _, [] => by simp [zipD]
  | _ :: as, _ :: bs => by simp only [zipD, List.length_cons, zipD_len as bs]; omega
theorem zipD_get : ∀ {as bs : List D} {i : Nat} {a b : D}, as[i]? = some a → bs[i]? = some b → (zipD as bs)[i]? = some (.tuple [a, b])
  | [], _, _, _, _, h, _ => by simp at h
  | _ :: _, [], _, _, _, _, h => by simp at h
  | a :: as, b :: bs, 0, _, _, h, h' => by cases h; cases h'; rfl
  | a :: as, b :: bs, i + 1, _, _, h, h' => by
    simp only [List.getElem?_cons_succ] at h h'
    show (zipD as bs)[i]? = _
    exact zipD_get h h'
def byVal : W → Option (List D)
  | .dat (.list ds) => some ds
  | .new ds => some ds
  | _ => none
theorem Rv.byVal {K : PySem.W.Frag} {β : Ad} {H : Hp} {v : V} {w : W} {ds : List D} (h : Rv K β H v w) (e : BV.byVal w = some ds) : ∃ a xs, v = .ref a ∧ a ∉ β.al ∧ H a = some (.lst xs) ∧ BpA K β H xs ds := by
  cases w with
  | dat d =>
    cases d with
    | list es =>
      cases e
      cases (show Bp K β H v (.list ds) from h) with
      | lst n q r => exact ⟨_, _, rfl, n, q, r⟩
    | _ => cases e
  | new es => cases e; exact h
  | hd n => cases e
  | frz es => cases e
theorem turns_pair {K : PySem.W.Frag} {β : Ad} {H : Hp} {J : It} {n : Nat} {xs ys : List V} {as bs : List D} {G : Hp → Prop} (c : CellL β H) (hn : n = min xs.length ys.length) (w : Walk J n G (YPair (fun i => xs[i]?) (fun i => ys[i]?))) (ra : BpA K β H xs as) (rb : BpA K β H ys bs)
    (hG : ∀ H1, KeepA β H H1 → G H1) : Turns K β H J (zipD as bs) none := by
  have hl : n = (zipD as bs).length := by rw [zipD_len, hn, ra.len, rb.len]
  rw [hl] at w
  refine ⟨G, _, w, fun β' S1 H1 g gc k c1 _ => ⟨hG H1 k, fun i x H2 hi y => ?_⟩⟩
  obtain ⟨T, x1, x2, rfl, nT, rfl, f1, f2⟩ := y
  obtain ⟨d1, g1, b1⟩ := ra.get f1
  obtain ⟨d2, g2, b2⟩ := rb.get f2
  have k2 : KeepA β H (L2.upd H1 T (.tup [x1, x2])) := fun a o e => (k a o e).imp id (same_upd nT a o)
  exact ⟨same_upd nT, .tuple [d1, d2], zipD_get g1 g2, .tup (SqT.of upd_same) (.cons (b1.keepA c k2 g.new) (.cons (b2.keepA c k2 g.new) .nil))⟩
theorem walk_zipTup {K : PySem.W.Frag} {a b : Addr} {xs ys : List V} {n : Nat} (hn : n = min xs.length ys.length) : Walk (RZ.ItzT K a b) n (fun H => SqT K H a xs ∧ SqT K H b ys) (YPair (fun i => xs[i]?) (fun i => ys[i]?)) := by
  subst hn
  refine ⟨fun i H hi q => ?_, fun H q => ⟨xs, ys, q.1, q.2, by omega⟩, fun i H v H' hi q y => ?_⟩
  · exact ⟨xs, ys, xs[i]'(by omega), ys[i]'(by omega), q.1, q.2, List.getElem?_eq_getElem _, List.getElem?_eq_getElem _⟩
  · obtain ⟨T, x, z, y1, y2, y3, y4, y5⟩ := y
    exact ⟨T, x, z, y1, y2, y3, y4 xs q.1, y5 ys q.2⟩
/-- a list that is walked: its items, the cell that must stay as it is -/
def srcW (S : Sto) : W → Option (List D × Gd)
  | .dat (.list ds) => some (ds, none)
  | .new ds => some (ds, none)
  | .frz ds => some (ds, none)
  | .hd n => S[n]?.map fun ds => (ds, some (n, ds))
  | _ => none
def Src (K : PySem.W.Frag) (β : Ad) (H1 : Hp) (a : Addr) (ds : List D) (g : Gd) : Prop := ∀ β' S2 H2, Grown β β' H1 → KeepA β H1 H2 → Cells K β' S2 H2 → gok g ds S2 → ∃ ys, SqL K H2 a ys ∧ BpA K β' H2 ys ds
theorem Rv.src {K : PySem.W.Frag} {β : Ad} {S1 : Sto} {H1 : Hp} {v : V} {w : W} {ds : List D} {g : Gd} (c : Cells K β S1 H1) (h : Rv K β H1 v w) (e : srcW S1 w = some (ds, g)) : ∃ a xs, v = .ref a ∧ SqL K H1 a xs ∧ BpA K β H1 xs ds ∧ Src K β H1 a ds g := by
  have via : BV.byVal w = some ds → g = Option.none → ∃ a xs, v = .ref a ∧ SqL K H1 a xs ∧ BpA K β H1 xs ds ∧ Src K β H1 a ds g := fun e2 e3 => by
    subst e3
    obtain ⟨a, xs, rfl, na, hx, rx⟩ := h.byVal e2
    exact ⟨a, xs, rfl, SqL.of hx, rx, fun β' S2 H2 gr k c2 _ => ⟨xs, SqL.of ((k _ _ hx).resolve_left na), rx.keepA c.cl k gr.new⟩⟩
  cases w with
  | dat d =>
    cases d with
    | list es => cases e; exact via rfl rfl
    | _ => cases e
  | new es => cases e; exact via rfl rfl
  | frz es =>
    cases e
    obtain ⟨a, xs, rfl, hx, rx⟩ := (show Rw K β H1 v (.frz ds) from h)
    exact ⟨a, xs, rfl, hx.sq, rx, fun β' S2 H2 gr k c2 _ => ⟨xs, (hx.keep c.cl k).sq, rx.keepA c.cl k gr.new⟩⟩
  | hd n =>
    cases es : S1[n]? with
    | none => rw [srcW, es] at e; cases e
    | some es' =>
      rw [srcW, es] at e
      cases e
      obtain ⟨a, ea, rfl⟩ := (show Rw K β H1 v (.hd n) from h)
      obtain ⟨xs, hx, rx⟩ := c.at_ n a _ ea es
      refine ⟨a, xs, rfl, SqL.of hx, rx, fun β' S2 H2 gr k c2 hg => ?_⟩
      have ea' : β'.ce[n]? = some a := by
        obtain ⟨t, ht⟩ := gr.ce
        rw [← ht, List.getElem?_append_left (List.getElem?_eq_some_iff.mp ea).1]
        exact ea
      obtain ⟨ys, hy, ry⟩ := c2.at_ n a _ ea' hg
      exact ⟨ys, SqL.of hy, ry⟩
theorem turns_zip {K : PySem.W.Frag} {β : Ad} {H : Hp} {a b : Addr} {as bs : List D} {g1 g2 g : Gd} (s1 : Src K β H a as g1) (s2 : Src K β H b bs g2) (hg : ∀ S, gok g (zipD as bs) S → gok g1 as S ∧ gok g2 bs S) : Turns K β H (Itz K a b) (zipD as bs) g := by
  refine ⟨fun H => (∃ xs, SqL K H a xs ∧ xs.length = as.length) ∧ ∃ ys, SqL K H b ys ∧ ys.length = bs.length, (Itz K a b).yld, ⟨fun i H hi q => ?_, fun H q => ?_, fun _ _ _ _ _ _ y => y⟩, fun β' S1 H1 gr gc k c1 hk => ?_⟩
  · obtain ⟨⟨xs, q, hn⟩, ⟨ys, q', hn'⟩⟩ := q
    rw [zipD_len] at hi
    exact ⟨xs, ys, xs[i]'(by omega), ys[i]'(by omega), q, q', List.getElem?_eq_getElem _, List.getElem?_eq_getElem _⟩
  · obtain ⟨⟨xs, q, hn⟩, ⟨ys, q', hn'⟩⟩ := q
    exact ⟨xs, ys, q, q', by rw [zipD_len]; omega⟩
  · obtain ⟨xs, q1, r1⟩ := s1 β' S1 H1 gr k c1 (hg S1 hk).1
    obtain ⟨ys, q2, r2⟩ := s2 β' S1 H1 gr k c1 (hg S1 hk).2
    refine ⟨⟨⟨xs, q1, r1.len⟩, ⟨ys, q2, r2.len⟩⟩, fun i x H2 hi y => ?_⟩
    obtain ⟨T, x1, x2, rfl, nT, rfl, f1, f2⟩ := y
    obtain ⟨d1, g1', b1⟩ := (r1.same c1.cl (same_upd nT) (fun _ h => .inl h)).get (f1 xs q1)
    obtain ⟨d2, g2', b2⟩ := (r2.same c1.cl (same_upd nT) (fun _ h => .inl h)).get (f2 ys q2)
    exact ⟨same_upd nT, .tuple [d1, d2], zipD_get g1' g2', .tup (SqT.of upd_same) (.cons b1 (.cons b2 .nil))⟩
def mZip (m : MA) : MI := fun η S => (m η S).bind fun p => match p.1 with
  | [w, u] => match srcW p.2 w, srcW p.2 u, tview w, tview u with
    | some (a, none), some (b, g), _, _ => some (zipD a b, g, p.2)
    | some (a, g), some (b, none), _, _ => some (zipD a b, g, p.2)
    | _, _, some a, some b => some (zipD a b, none, p.2)
    | _, _, _, _ => none
  | _ => none
theorem di_zip {a b : Expr} {m : MA} {p pos tpos : Pos} {elts : List Expr} {kk : Nat} (hg : Gl X "zip") (hm : X.mg "zip" = none) (ha : DA X [a, b] m) (hs : starEach [a, b] X.env = (false, eval a X.env) :: starEach [b] X.env := by rfl)
    (hpl : (backTo pos (starEach [b] X.env)).any (·.1) = false := by rfl) : DI X (.Tuple elts kk tpos) (.Call (.Name "zip" p) [a, b] [] pos) (mZip m) :=
  (RZ.pi_zipA hg hm ha hs hpl).imp fun σ H R ⟨β, η, S, ds, g, S', SR0, e, q⟩ => by
    unfold mZip at e
    cases e1 : m η S with
    | none => rw [e1] at e; cases e
    | some p =>
      obtain ⟨ws, S1⟩ := p
      rw [e1] at e
      simp only [Option.bind_some] at e
      refine ⟨β, η, S, ws, S1, SR0, e1, fun vs H1 k c r => ?_⟩
      split at e
      · rename_i w u
        obtain ⟨v, v', rfl, rv, rv'⟩ := (r.rva SR0.cl).two
        split at e
        · rename_i as bs g2 h1 h2
          cases e
          obtain ⟨a, xs, rfl, hx, rx, s1⟩ := rv.src c h1
          obtain ⟨b, ys, rfl, hy, ry, s2⟩ := rv'.src c h2
          exact ⟨a, b, xs, ys, rfl, .inl ⟨hx, hy, q _ _ k c (turns_zip s1 s2 fun S hk => ⟨trivial, hk⟩)⟩⟩
        · rename_i as g1 bs _ h1 h2
          cases e
          obtain ⟨a, xs, rfl, hx, rx, s1⟩ := rv.src c h1
          obtain ⟨b, ys, rfl, hy, ry, s2⟩ := rv'.src c h2
          exact ⟨a, b, xs, ys, rfl, .inl ⟨hx, hy, q _ _ k c (turns_zip s1 s2 fun S hk => ⟨hk, trivial⟩)⟩⟩
        · rename_i as bs h1 h2 _ _
          cases e
          obtain ⟨a, xs, rfl, hx, rx⟩ := rv.tuple h1
          obtain ⟨b, ys, rfl, hy, ry⟩ := rv'.tuple h2
          exact ⟨a, b, xs, ys, rfl, .inr ⟨hx, hy, q _ _ k c (turns_pair c.cl rfl (walk_zipTup rfl) rx ry fun H2 k2 => ⟨BV.SqT.keep c.cl k2 hx, BV.SqT.keep c.cl k2 hy⟩)⟩⟩
        · cases e
      · cases e
/-- d[k] of a dict of the text's own: text keys, plain values -/
structure DictIs (K : PySem.W.Frag) (w : World) (d : Addr) (ps : List (Str × D)) : Prop where
  kd : ∃ es n, KDict K w d es n
  at_ : ∀ z x, ps.lookup z = some x → ∃ u0 v0, PySem.W.nsIn K d z = some (some u0) ∧ RelV v0 u0 ∧ ∀ β H, Bp K β H v0 x
def mKd (ps : List (Str × D)) (m : ME) : ME := fun η S => (m η S).bind fun p => (strview p.1).bind fun z => (ps.lookup z).map fun x => (.dat x, p.2)
theorem de_kd {x : Str} {d : Addr} {ps : List (Str × D)} {px : Pos} (D_ : DictIs X.K X.w d ps) (hg : Gl X x) (hm : X.mg x = some (.ref d)) (hs : PlainIx e := by exact fun _ _ => rfl) (he : DE X e m) (hdb : (x == ("__debug__" : Str)) = false := by decide) : DE X (.Subscript (.Name x px) e pos) (mKd ps m) := by
  obtain ⟨es, n, kd⟩ := D_.kd
  have ix : IxR X (fun x y H Q => ∃ (z : Str) (u0 : Value) (v0 : V), x = .ref d ∧ y = .str z ∧ PySem.W.nsIn X.K d z = some (some u0) ∧ RelV v0 u0 ∧ Q v0 H) := by
    intro value slice pins s σ H x y v u Q I rx ry h hsub
    obtain ⟨z, u0, v0, rfl, rfl, e, r, q⟩ := id h
    have rx' := rx
    cases rx
    exact tail_any (kd_type kd I) PySem.F.slot_dict_getitem.lookup (op_item_kd kd pins s σ H _ _ _ u Q I rx' ry h) hsub
  refine (pe_ix ix (pe_glob (v := .ref d) hg hm rfl hdb) he hs).imp fun σ H Q ⟨β, η, S, w, S', R, e, q⟩ => ?_
  unfold mKd at e
  cases e1 : m η S with
  | none => rw [e1] at e; cases e
  | some p =>
    obtain ⟨w1, S1⟩ := p
    rw [e1] at e
    simp only [Option.bind_some] at e
    refine ⟨β, η, S, w1, S1, R, e1, fun v1 H1 k1 c1 r1 => ?_⟩
    cases h : strview w1 with
    | none => rw [h] at e; cases e
    | some z =>
      rw [h] at e
      simp only [Option.bind_some] at e
      cases h2 : ps.lookup z with
      | none => rw [h2] at e; cases e
      | some x =>
        rw [h2] at e
        cases e
        obtain ⟨u0, v0, f1, f2, f3⟩ := D_.at_ z x h2
        exact ⟨z, u0, v0, rfl, (r1.rv R.cl).str h, f1, f2, q v0 H1 k1 c1 (f3 β H1)⟩
end
end BV
set_option Elab.async false
set_option linter.all false
set_option maxRecDepth 100000
namespace BV
open PySem PySem.Spec PyProof.Rows L2

/-! ### the text's own defs, by name -/
structure Own (P : Program) (w : World) (K : PySem.W.Frag) (mg : Str → Option Value) (base : Heap) (x : Str) (k : Nat) (ps : List Str) (F : MF) : Prop where
  ex : ∃ f fd, FnG P w K mg base CX0 k f fd ps (spF K ps.length F) ∧ mg x = some (.ref f) ∧ PySem.W.keepIn K (.ref f) = true ∧ Binds K fd ps []
/-- what the top leaves of a def -/
structure Left (K : PySem.W.Frag) (mg : Str → Option Value) (x : Str) (st : Stmt) (ps : List Str) : Prop where
  ex : ∃ f fd, Fun K x x st f fd ∧ mg x = some (.ref f) ∧ Binds K fd ps []
section
variable {P : Program} {w : World} {K : PySem.W.Frag} {mg : Str → Option Value} {base : Heap}
theorem own_ok {x : Str} {st : Stmt} {N ps : List Str} {k n : Nat} {m : MS} (L : Left K mg x st ps) (sc : FnScope N ps (defScope st)) (hn : N.length = n) (hl : ps.length ≤ n)
    (hbody : ∀ (f : Addr) (cdv : Value) (A : Around) (outer : List PySem.Env) (s : Shared) (H : Hp) (E : XK), A.guards = some [] → Room k (A.deeper (envOfC x (defScope st) s.heap.objs.size f cdv)) →
      DSs (cxOf CX0 P w K mg base N x (defScope st) f cdv A outer s H E).nox (defBody st) m) : Own P w K mg base x (k + 1) ps (bodyF n m) := by
  obtain ⟨f, fd, F, hm, hb⟩ := L.ex
  exact ⟨f, fd, fn_ok F sc hn hl (fun cdv A outer s H E hG hr => hbody f cdv A outer s H E hG hr), hm, F.kp, hb⟩
/-- the chosen ones, in their order -/
def pick {α : Type} : List Nat → List α → Option (List α)
  | [], _ => some []
  | i :: is, ws => ws[i]?.bind fun w => (pick is ws).map fun us => w :: us
/-- how keywords alone are bound: ks their names, is the parameters' places among them -/
def KB (K : PySem.W.Frag) (fd : FuncData) (ps ks : List Str) (is : List Nat) : Prop := ∀ (s : Shared) (ws us : List Value), K.In s.heap → ws.length = ks.length → pick is ws = some us → BindsTo s fd ⟨[], ks.zip ws⟩ (ps.zip us)
structure OwnX (P : Program) (w : World) (K : PySem.W.Frag) (mg : Str → Option Value) (base : Heap) (x : Str) (k : Nat) (ps : List Str) (kss : List (List Str × List Nat)) (F : MF) : Prop where
  ex : ∃ f fd, FnG P w K mg base CX0 k f fd ps (spF K ps.length F) ∧ mg x = some (.ref f) ∧ PySem.W.keepIn K (.ref f) = true ∧ Binds K fd ps [] ∧ ∀ q ∈ kss, KB K fd ps q.1 q.2
structure LeftX (K : PySem.W.Frag) (mg : Str → Option Value) (x : Str) (st : Stmt) (ps : List Str) (kss : List (List Str × List Nat)) : Prop where
  ex : ∃ f fd, Fun K x x st f fd ∧ mg x = some (.ref f) ∧ Binds K fd ps [] ∧ ∀ q ∈ kss, KB K fd ps q.1 q.2
theorem own_okX {x : Str} {st : Stmt} {N ps : List Str} {kss : List (List Str × List Nat)} {k n : Nat} {m : MS} (L : LeftX K mg x st ps kss) (sc : FnScope N ps (defScope st)) (hn : N.length = n) (hl : ps.length ≤ n)
    (hbody : ∀ (f : Addr) (cdv : Value) (A : Around) (outer : List PySem.Env) (s : Shared) (H : Hp) (E : XK), A.guards = some [] → Room k (A.deeper (envOfC x (defScope st) s.heap.objs.size f cdv)) →
      DSs (cxOf CX0 P w K mg base N x (defScope st) f cdv A outer s H E).nox (defBody st) m) : OwnX P w K mg base x (k + 1) ps kss (bodyF n m) := by
  obtain ⟨f, fd, F, hm, hb, hk⟩ := L.ex
  exact ⟨f, fd, fn_ok F sc hn hl (fun cdv A outer s H E hG hr => hbody f cdv A outer s H E hG hr), hm, F.kp, hb, hk⟩
theorem OwnX.own {x : Str} {k : Nat} {ps : List Str} {kss : List (List Str × List Nat)} {F : MF} (o : OwnX P w K mg base x k ps kss F) : Own P w K mg base x k ps F :=
  let ⟨f, fd, G, h1, h2, h3, _⟩ := o.ex
  ⟨f, fd, G, h1, h2, h3⟩
theorem _root_.L2.Fun.kb {x qual : Str} {st : Stmt} {f : Addr} {fd : FuncData} {ps : List Str} (F : Fun K x qual st f fd) (ks : List Str) (is : List Nat)
    (h : ∀ (kV doc pm : Value) (an : Option Addr) (cdv ct : Value) (ws us : List Value), ws.length = ks.length → pick is ws = some us → bindArgs (PySem.W.fnOf x qual (defArgs st) (defBody st) (defScope st) .none kV doc pm an cdv ct) ⟨[], ks.zip ws⟩ = pure (ps.zip us)) : KB K fd ps ks is := by
  obtain ⟨oc, od, kV, doc, pm, an, cdv, ct, osl, rfl, lk, hcd⟩ := F.ex
  exact fun s ws us _ hl hp => .of_eq (h kV doc pm an cdv ct ws us hl hp)
theorem own_mono {x : Str} {j k : Nat} {ps : List Str} {F : MF} (o : Own P w K mg base x j ps F) (h : j ≤ k) : Own P w K mg base x k ps F :=
  let ⟨f, fd, G, r⟩ := o.ex
  ⟨f, fd, G.mono h, r⟩
/-- nothing is promised -/
theorem own_none {x : Str} {st : Stmt} {k : Nat} {ps : List Str} (L : Left K mg x st ps) : Own P w K mg base x k ps (fun _ _ => none) := by
  obtain ⟨f, fd, F, hm, hb⟩ := L.ex
  refine ⟨f, fd, ⟨fun vs H Q E h => h.1, fun A outer s H args us vs Q E hG hr e0 hbt hv h => ?_⟩, hm, F.kp, hb⟩
  obtain ⟨_, β, S, ws, wr, S', c, r, e, q⟩ := h
  cases e
theorem close_okL {β β' : Ad} {S S1 : Sto} {H H' : Hp} {v : V} {w1 wr : W} (cln : β.ce.length = S.length) (ccl : CellL β H) (c1 : Cells K β' S1 H') (g : Grown β β' H) (gc : ∀ a ∈ β'.ce, a ∈ β.ce ∨ H a = none) (r1 : Rr K β' S1 H H' v w1) (e : closeW S.length S1 w1 = some wr) :
    Cells K β (S1.take S.length) H' ∧ Rr K β (S1.take S.length) H H' v wr := by
  have cd : Cells K β (S1.take S.length) H' := c1.drop (β := β) _ cln.symm g.ce g.al ccl.1
  refine ⟨cd, ?_⟩
  cases w1 with
  | dat d =>
    cases e
    exact (show Bp K β' H' v d from r1).keep c1.cl Keep.refl fun a ha => .inl (g.al a ha)
  | frz ds =>
    cases e
    obtain ⟨a, xs, e1, e2, e3⟩ := r1
    exact ⟨a, xs, e1, e2, e3.keep c1.cl Keep.refl fun a ha => .inl (g.al a ha)⟩
  | new ds =>
    cases e
    obtain ⟨a, xs, e1, e2, e3, e4, e5⟩ := r1
    have sub : ∀ b ∈ (β.av a).al, b ∈ (β'.av a).al := fun b hb => by
      rcases List.mem_cons.mp hb with h | h
      · rw [h]; exact List.mem_cons_self
      · exact List.mem_cons_of_mem _ (g.al b h)
    exact ⟨a, xs, e1, e2, e3, e4.keep e5.cl Keep.refl fun b hb => .inl (sub b hb), e5.drop (β := β.av a) _ cln.symm g.ce sub fun b hb => List.mem_cons_of_mem _ (ccl.1 b hb)⟩
  | hd i =>
    unfold closeW at e
    dsimp only at e
    obtain ⟨a, ea, rfl⟩ := r1
    by_cases hi : i < S.length
    · rw [if_pos hi] at e
      cases e
      refine ⟨a, ?_, rfl⟩
      obtain ⟨t, ht⟩ := g.ce
      rw [← ht, List.getElem?_append_left (by rw [cln]; exact hi)] at ea
      exact ea
    · rw [if_neg hi] at e
      cases es : S1[i]? with
      | none => rw [es] at e; cases e
      | some ds =>
        rw [es] at e
        cases e
        obtain ⟨xs, hx, rx⟩ := c1.at_ i a ds ea es
        have am : a ∈ β'.ce := List.mem_of_getElem? ea
        have an : H a = none := (gc a am).resolve_left fun z => by
          obtain ⟨t, ht⟩ := g.ce
          obtain ⟨j, hj, ej⟩ := List.getElem_of_mem z
          have : β'.ce[j]? = some a := by rw [← ht, List.getElem?_append_left hj, List.getElem?_eq_getElem hj, ej]
          have := nodup_ixA c1.nd ea this
          rw [cln] at hj
          omega
        have sub : ∀ b ∈ (β.av a).al, b ∈ β'.al := fun b hb => by
          rcases List.mem_cons.mp hb with h | h
          · rw [h]; exact c1.cl.1 a am
          · exact g.al b h
        exact ⟨a, xs, rfl, an, hx, rx.keep c1.cl Keep.refl fun b hb => .inl (sub b hb), c1.drop (β := β.av a) _ cln.symm g.ce sub fun b hb => List.mem_cons_of_mem _ (ccl.1 b hb)⟩
/-- new lists that are handed to a def that changes them: cells for as long -/
def argsC : List Bool → List W → Sto → Option (List W × Sto)
  | [], [], S => some ([], S)
  | true :: fs, .new ds :: ws, S => (argsC fs ws (S ++ [ds])).map fun r => (.hd S.length :: r.1, r.2)
  | _ :: _, .new _ :: _, _ => none
  | _ :: fs, w :: ws, S => (argsC fs ws S).map fun r => (w :: r.1, r.2)
  | _, _, _ => none
def mFnC (fl : List Bool) (F : MF) (m : MA) : ME := fun η S => (m η S).bind fun p => (argsC fl p.1 p.2).bind fun q => (F q.1 q.2).bind fun r => (closeW p.2.length r.2 r.1).map fun w => (w, r.2.take p.2.length)
theorem argsC_len : ∀ {fl : List Bool} {ws us : List W} {S S' : Sto}, argsC fl ws S = some (us, S') → us.length = fl.length
  | [], [], _, _, _, e => by cases e; rfl
  | [], w :: ws, _, _, _, e => by cases w <;> simp [argsC] at e
  | b :: fs, [], _, _, _, e => by cases b <;> simp [argsC] at e
  | b :: fs, w :: ws, us, S, S', e => by
    cases w with
    | new ds =>
      cases b with
      | false => cases e
      | true =>
        replace e : (argsC fs ws (S ++ [ds])).map (fun r => (W.hd S.length :: r.1, r.2)) = some (us, S') := e
        cases e1 : argsC fs ws (S ++ [ds]) with
        | none => rw [e1] at e; cases e
        | some r => rw [e1] at e; cases e; rw [List.length_cons, List.length_cons, argsC_len (us := r.1) (S' := r.2) e1]
    | _ =>
      cases b <;>
      · replace e : (argsC fs ws S).map (fun r => (_ :: r.1, r.2)) = some (us, S') := e
        cases e1 : argsC fs ws S with
        | none => rw [e1] at e; cases e
        | some r => rw [e1] at e; cases e; rw [List.length_cons, List.length_cons, argsC_len (us := r.1) (S' := r.2) e1]
/-- a cell made of a list that is left alone -/
theorem cells_more {γ : Ad} {S : Sto} {H : Hp} {a : Addr} {xs : List V} {ds : List D} (c : Cells K γ S H) (ha : a ∈ γ.al) (na : a ∉ γ.ce) (hq : H a = some (.lst xs)) (rb : BpA K γ H xs ds) :
    Cells K ⟨γ.al, γ.ce ++ [a]⟩ (S ++ [ds]) H ∧ (γ.ce ++ [a])[S.length]? = some a := by
  have len : γ.ce.length = S.length := c.len
  have at1 : (γ.ce ++ [a])[S.length]? = some a := by
    rw [← len, List.getElem?_append_right (Nat.le_refl _), Nat.sub_self]
    rfl
  refine ⟨⟨⟨fun b hb => ?_, c.cl.2⟩, ?_, ?_, fun j b es e1 e2 => ?_⟩, at1⟩
  · rcases List.mem_append.mp hb with h | h
    · exact c.cl.1 b h
    · rw [List.mem_singleton.mp h]; exact ha
  · exact List.nodup_append.mpr ⟨c.nd, by simp, fun x hx y hy => by
      rw [List.mem_singleton.mp hy]
      rintro rfl
      exact na hx⟩
  · show (γ.ce ++ [a]).length = (S ++ [ds]).length
    rw [List.length_append, List.length_append, len]
    rfl
  · replace e1 : (γ.ce ++ [a])[j]? = some b := e1
    have same : ∀ z ∈ (⟨γ.al, γ.ce ++ [a]⟩ : Ad).al, z ∈ γ.al ∨ H z = none := fun z hz => .inl hz
    by_cases h : j < γ.ce.length
    · rw [List.getElem?_append_left h] at e1
      rw [List.getElem?_append_left (by omega)] at e2
      obtain ⟨ys, h1, h2⟩ := c.at_ j b es e1 e2
      exact ⟨ys, h1, h2.keep c.cl Keep.refl same⟩
    · rw [List.getElem?_append_right (by omega)] at e1 e2
      have hi : j - γ.ce.length = 0 := by
        have := (List.getElem?_eq_some_iff.mp e1).1
        rw [List.length_singleton] at this
        omega
      rw [← len, hi] at e2
      rw [hi] at e1
      cases e1
      cases e2
      exact ⟨xs, hq, rb.keep c.cl Keep.refl same⟩
theorem argsC_ok {H : Hp} {ws : List W} : ∀ {fl : List Bool} {γ : Ad} {S S' : Sto} {vs : List V} {us : List W} {ns : List Addr}, Cells K γ S H → RrN K γ H vs ws ns → ns.Nodup → (∀ a ∈ ns, a ∈ γ.al ∧ a ∉ γ.ce) → argsC fl ws S = some (us, S') →
    ∃ γ', γ'.al = γ.al ∧ γ.ce <+: γ'.ce ∧ (∀ a ∈ γ'.ce, a ∈ γ.ce ∨ a ∈ ns) ∧ Cells K γ' S' H ∧ RwA K γ' H vs us := by
  induction ws with
  | nil =>
    intro fl γ S S' vs us ns c r nd hn e
    cases r
    cases fl with
    | nil => cases e; exact ⟨γ, rfl, List.prefix_refl _, fun a h => .inl h, c, .nil⟩
    | cons b fl => cases b <;> cases e
  | cons w ws ih =>
    intro fl γ S S' vs us ns c r nd hn e
    cases fl with
    | nil => cases e
    | cons b fs =>
      cases r with
      | @val v vs _ _ ns rv rr =>
        have e : (argsC fs ws S).map (fun r => (w :: r.1, r.2)) = some (us, S') := by
          cases w with
          | new ds => exact absurd rv id
          | dat _ => cases b <;> exact e
          | hd _ => cases b <;> exact e
          | frz _ => cases b <;> exact e
        cases e1 : argsC fs ws S with
        | none => rw [e1] at e; cases e
        | some r =>
          rw [e1] at e
          cases e
          obtain ⟨γ', h1, h2, h3, h4, h5⟩ := ih (us := r.1) (S' := r.2) c rr nd hn e1
          exact ⟨γ', h1, h2, h3, h4, .cons (rv.keep c.cl Keep.refl (fun a ha => .inl (by rw [← h1]; exact ha)) h2) h5⟩
      | @new a xs vs ds _ ns hq rb rr =>
        have hnd := List.nodup_cons.mp nd
        cases b with
        | false => cases e
        | true =>
          replace e : (argsC fs ws (S ++ [ds])).map (fun r => (W.hd S.length :: r.1, r.2)) = some (us, S') := e
          cases e1 : argsC fs ws (S ++ [ds]) with
          | none => rw [e1] at e; cases e
          | some r =>
            rw [e1] at e
            cases e
            have ha := hn a List.mem_cons_self
            obtain ⟨c1, at1⟩ := cells_more c ha.1 ha.2 hq rb
            have same : ∀ z ∈ (⟨γ.al, γ.ce ++ [a]⟩ : Ad).al, z ∈ γ.al ∨ H z = none := fun z hz => .inl hz
            obtain ⟨γ', h1, h2, h3, h4, h5⟩ := ih (us := r.1) (S' := r.2) c1 (rr.grow c.cl same (List.prefix_append _ _)) hnd.2 (fun b hb => ⟨(hn b (List.mem_cons_of_mem _ hb)).1, fun z => by
              rcases List.mem_append.mp z with h | h
              · exact (hn b (List.mem_cons_of_mem _ hb)).2 h
              · rw [List.mem_singleton.mp h] at hb; exact hnd.1 hb⟩) e1
            refine ⟨γ', h1, (List.prefix_append _ _).trans h2, fun b hb => ?_, h4, .cons ⟨a, ?_, rfl⟩ h5⟩
            · rcases h3 b hb with h | h
              · rcases List.mem_append.mp h with h | h
                · exact .inl h
                · rw [List.mem_singleton.mp h]; exact .inr List.mem_cons_self
              · exact .inr (List.mem_cons_of_mem _ h)
            · obtain ⟨t, ht⟩ := h2
              rw [← ht, List.getElem?_append_left (List.getElem?_eq_some_iff.mp at1).1]
              exact at1
end
section
variable {X : Cx} {e : Expr} {es : List Expr} {m : MA} {x : Str} {p pos : Pos} {j k : Nat} {ps : List Str} {F : MF}
theorem de_own {n : Nat} (hG : X.A.guards = some []) (o : Own X.prog X.w X.K X.mg X.base x j ps F) (hn : ps.length = n) (hr : Room k X.A) (hj : (decide (j ≤ k)) = true) (hg : Gl X x) (ha : DA X (e :: es) m) (hdb : (x == ("__debug__" : Str)) = false := by decide)
    (he : starEach (e :: es) X.env = (false, eval e X.env) :: starEach es X.env := by rfl) (hpl : (backTo pos (starEach es X.env)).any (·.1) = false := by rfl) : DE X (.Call (.Name x p) (e :: es) [] pos) (mFn n F m) := by
  subst hn
  obtain ⟨f, fd, G, hm, hk, hb⟩ := o.ex
  exact de_call hG G (hr.mono (of_decide_eq_true hj)) hg hm hk hb ha hdb he hpl
theorem de_ownC (fl : List Bool) (hG : X.A.guards = some []) (o : Own X.prog X.w X.K X.mg X.base x j ps F) (hfl : (decide (fl.length = ps.length)) = true) (hr : Room k X.A) (hj : (decide (j ≤ k)) = true) (hg : Gl X x) (ha : DA X (e :: es) m) (hdb : (x == ("__debug__" : Str)) = false := by decide)
    (he : starEach (e :: es) X.env = (false, eval e X.env) :: starEach es X.env := by rfl) (hpl : (backTo pos (starEach es X.env)).any (·.1) = false := by rfl) : DE X (.Call (.Name x p) (e :: es) [] pos) (mFnC fl F m) := by
  obtain ⟨f, fd, G, hm, hk, hb⟩ := o.ex
  refine (pe_callG (E := E0) (dvs := []) G hG (hr.mono (of_decide_eq_true hj)) hg hm hk hb .nil pass0 ha hdb he hpl).imp fun σ H Q ⟨β, η, S, w, S', R, e, q⟩ => ?_
  unfold mFnC at e
  cases e1 : m η S with
  | none => rw [e1] at e; cases e
  | some pr =>
    obtain ⟨ws, S1⟩ := pr
    rw [e1] at e
    simp only [Option.bind_some] at e
    refine ⟨β, η, S, ws, S1, R, e1, fun vs H1 k1 c1 r1 => ?_⟩
    cases e2 : argsC fl ws S1 with
    | none => rw [e2] at e; cases e
    | some pr =>
      obtain ⟨us, S2⟩ := pr
      rw [e2] at e
      simp only [Option.bind_some] at e
      cases e3 : F us S2 with
      | none => rw [e3] at e; cases e
      | some pr =>
        obtain ⟨w3, S3⟩ := pr
        rw [e3] at e
        simp only [Option.bind_some] at e
        cases e4 : closeW S1.length S3 w3 with
        | none => rw [e4] at e; cases e
        | some w4 =>
          rw [e4] at e
          cases e
          obtain ⟨ns, rr, nd, fr, c⟩ := r1
          have nce : ∀ a ∈ ns, a ∉ β.ce := fun a ha z => by
            obtain ⟨xs, e⟩ := R.cl.2 a (R.cl.1 a z)
            rw [fr a ha] at e; cases e
          obtain ⟨γ', h1, h2, h3, h4, h5⟩ := argsC_ok c rr nd (fun a ha => ⟨List.mem_append_left _ ha, nce a ha⟩) e2
          have fr1 : ∀ a ∈ ns, H a = none := fr
          rw [List.append_nil]
          refine ⟨by rw [h5.len, argsC_len e2]; exact of_decide_eq_true hfl, γ', S2, us, w3, S3, h4, h5, e3, fun v H2 k2 c2 r2 => ?_⟩
          -- back to the cells of the caller, seen from the start
          have G2 : Grown β γ' H := ⟨h2, fun a ha => by rw [h1]; exact List.mem_append_right _ ha, fun a ha => by
            rw [h1] at ha
            exact (List.mem_append.mp ha).elim (fun h => .inr (fr a h)) .inl⟩
          have GC : ∀ a ∈ γ'.ce, a ∈ β.ce ∨ H a = none := fun a ha => (h3 a ha).imp id (fr a)
          have K2 : Keep β H H2 := fun a o e => by
            rcases k1 a o e with z | z
            · exact .inl z
            · rcases k2 a o z with y | y
              · rcases GC a y with x | x
                · exact .inl x
                · rw [e] at x; cases x
              · exact .inr y
          have r3 : Rr X.K γ' S3 H H2 v w3 := by
            cases w3 with
            | new ds =>
              obtain ⟨a, xs, ea, n, rest⟩ := r2
              refine ⟨a, xs, ea, ?_, rest⟩
              cases hq : H a with
              | none => rfl
              | some o =>
                rcases k1 a o hq with z | z
                · obtain ⟨ys, e⟩ := c1.cl.2 a (c1.cl.1 a z)
                  rw [n] at e; cases e
                · rw [n] at z; cases z
            | dat d => exact r2
            | hd n => exact r2
            | frz ds => exact r2
          have c0 : Cells X.K β S1 H1 := c1
          obtain ⟨cd, rd⟩ := close_okL c0.len R.cl c2 G2 GC r3 e4
          exact q v H2 K2 cd rd
end
end BV
set_option Elab.async false
set_option linter.all false
set_option maxRecDepth 100000
namespace BV
open PySem PySem.Spec PyProof.Rows L2

/-! ### what is left to say -/
theorem hu65 {k : Nat} {A : Around} (r : Room k A) : A.units + 65 < cLine := by
  have := r.un
  omega
theorem lookup_mem {β : Type} : ∀ {l : List (Str × β)} {z : Str} {x : β}, l.lookup z = some x → (z, x) ∈ l
  | [], _, _, e => by cases e
  | (a, b) :: l, z, x, e => by
    unfold List.lookup at e
    split at e
    · rename_i h
      cases e
      rw [eq_of_beq h]
      exact List.mem_cons_self
    · exact List.mem_cons_of_mem _ (lookup_mem e)
/-- list(range(..)) -/
def mLstRg1 (m : MA) : ME := fun η S => (m η S).bind fun p => match p.1 with
  | [w] => (iview w).bind fun j => if decide (-(2 ^ 62) ≤ j ∧ j < 2 ^ 62 ∧ (j - 0).toNat ≤ 2 ^ 24) = true then some (.new (intsR 0 (j - 0).toNat), p.2) else none
  | _ => none
section
variable {X : Cx} {a : Expr} {m : ME} {p p' pos pos' : Pos}
theorem rgV_ints {K : PySem.W.Frag} {β : Ad} {H : Hp} (lo hi : Int) : BpA K β H (rgV lo hi) (intsR lo (hi - lo).toNat) := by
  unfold rgV intsR
  generalize List.range (hi - lo).toNat = l
  induction l with
  | nil => exact .nil
  | cons i l ih => exact .cons (.int _) ih
theorem de_lstRg1 (hc : X.calm = true) (hg : Gl X "list") (hm : X.mg "list" = none) (hg' : Gl X "range") (hm' : X.mg "range" = none) (ha : DE X a m) (na : starEach [a] X.env = (false, eval a X.env) :: starEach [] X.env := by rfl)
    (nr : starEach [.Call (.Name "range" p') [a] [] pos'] X.env = (false, eval (.Call (.Name "range" p') [a] [] pos') X.env) :: starEach [] X.env := by rfl) :
    DE X (.Call (.Name "list" p) [.Call (.Name "range" p') [a] [] pos'] [] pos) (mLstRg1 (mCons m mNil)) :=
  (pe_listRg hc hg hm (prg_1 hg' hm' ha na) nr).imp fun σ H Q ⟨β, η, S, w, S', R, e, q⟩ => by
    unfold mLstRg1 mCons mNil at e
    cases e1 : m η S with
    | none => rw [e1] at e; cases e
    | some pr =>
      obtain ⟨w1, S1⟩ := pr
      rw [e1] at e
      simp only [Option.bind_some, Option.map_some] at e
      refine ⟨β, η, S, w1, S1, R, e1, fun v H1 k c r => ?_⟩
      cases h : iview w1 with
      | none => rw [h] at e; cases e
      | some j =>
        rw [h] at e
        simp only [Option.bind_some] at e
        split at e
        · rename_i hb
          cases e
          have hb := of_decide_eq_true hb
          refine ⟨j, (r.rv R.cl).int h, ⟨by omega, by omega, hb.1, hb.2.1, hb.2.2⟩, fun p hp => ?_⟩
          exact (show Then X.K β _ H1 (.new (intsR 0 (j - 0).toNat)) Q from fun v2 H2 k2 c2 r2 => q v2 H2 (k.trans k2) c2 (r2.back c.cl k)).new c (rgV_ints 0 j) hp
        · cases e
end
end BV
set_option Elab.async false
set_option linter.all false
set_option maxRecDepth 100000
namespace BV
open PySem PySem.Spec PyProof.Rows L2
open PySem.Sem (wp)

/-! ### enumerate of lists by value and of tuples -/
set_option maxHeartbeats 1000000 in
theorem meets_enum1 {v : Value} {o : Obj} {H : Heap → Prop} (B : Begins v o H) :
    Meets (Builtin.«enumerate.__new__» ⟨[.type "enumerate", v], []⟩) (fun _ R s => H s.heap ∧
      R (.ok (.ret (.ref (s.heap.push o).objs.size))) { s with heap := (s.heap.push o).push { cls := .type "enumerate", data := .fields #[.none, .bool false, .ref s.heap.objs.size, rawInt 0, .none, .none] } }) :=
  .of_wp fun prog w A R s h => by
    obtain ⟨hp, g, d, tk, os⟩ := s
    obtain ⟨h1, h⟩ := h
    have hsub := sub_enumerate
    have q1 : ∀ {A' : Around} {E : Value → Shared → Prop} {Q : Value → Shared → Prop}, Q (.ref hp.objs.size) ⟨hp.push o, g, d, tk, os⟩ → wpAny (model prog w) A' (pyIter v) Q E ⟨hp, g, d, tk, os⟩ :=
      fun q => B.iter prog w _ _ ⟨hp, g, d, tk, os⟩ _ h1 q
    wp_walk using q1
    refine wpAny_stack_any fun st => wpAny_pure ?_
    split
    · rename_i c _ _ _ _ _
      cases (c == Value.type "enumerate")
      · wp_walk using q1
        exact ⟨_, rfl, h⟩
      · wp_walk using q1
        exact ⟨_, rfl, h⟩
    · wp_walk using q1
      exact ⟨_, rfl, h⟩
theorem call_enum1 {prog : Program} {w : World} {A : Around} {E : Value → Shared → Prop} {s : Shared} {v : Value} {o : Obj} {H : Heap → Prop} {Q : Value → Shared → Prop} (B : Begins v o H) (h1 : H s.heap)
    (h : ∀ h', IsEnum h' (s.heap.objs.size + 1) s.heap.objs.size 0 .none → h'.get? s.heap.objs.size = some o → h'.objs.size = s.heap.objs.size + 2 →
      (∀ b o, s.heap.get? b = some o → h'.get? b = some o) → Q (.ref (s.heap.objs.size + 1)) { s with heap := h' }) :
    wpAny (model prog w) A (call (.type "enumerate") [v]) Q E s := by
  refine callType_new F.called_enumerate (by decide) (F.typeCall_enumerate_1 _) (F.newCall_enumerate_1 _) (fun obj => F.args_object_init_2 obj _) F.entry_enumerate_new
    (meets_enum1 B) ⟨h1, ?_⟩
  have hz : (s.heap.push o).objs.size = s.heap.objs.size + 1 := Heap.size_push ..
  show _ ∧ _
  rw [hz]
  have he : IsEnum ((s.heap.push o).push { cls := .type "enumerate", data := .fields #[.none, .bool false, .ref s.heap.objs.size, rawInt 0, .none, .none] }) (s.heap.objs.size + 1) s.heap.objs.size 0 .none := by
    have := Heap.get?_push_size (s.heap.push o) (o := { cls := .type "enumerate", data := .fields #[.none, .bool false, .ref s.heap.objs.size, rawInt 0, .none, .none] }) rfl
    rw [hz] at this; exact this
  refine ⟨⟨_, he, rfl⟩, h _ he (Heap.get?_push_of_some _ (Heap.get?_push_size _ B.free)) (by rw [Heap.size_push, hz]) fun b o x => Heap.get?_push_of_some _ (Heap.get?_push_of_some _ x)⟩
/-- the tuple at a, each item in a new pair -/
def IteT (K : PySem.W.Frag) (a : Addr) : It :=
  ⟨fun i H => ∃ (xs : List V) (x : V), SqT K H a xs ∧ xs[i]? = some x, fun i H v H' => ∃ T x, v = .ref T ∧ H T = none ∧ H' = upd H T (.tup [.int (i : Nat), x]) ∧ ∀ xs, SqT K H a xs → xs[i]? = some x, fun i H => ∃ xs : List V, SqT K H a xs ∧ xs.length = i⟩
theorem turn_enumT {P : Program} {w : World} {K : PySem.W.Frag} {elts : List Expr} {kk : Nat} {tpos : Pos} (a e it : Addr) :
    Turn P w K (.Tuple elts kk tpos) (IteT K a) [e, it] e (fun i h => (∃ old, IsEnum h e it ((i : Nat) : Int) old) ∧ h.IsTupleIter it a i ∧ e ≠ it ∧ a ≠ e ∧ a ≠ it) where
  mem := by simp
  obj := fun i h st b hb => by
    obtain ⟨⟨old, he⟩, ⟨o, ho, hc, hd⟩, _⟩ := st
    have e' : b = e ∨ b = it := by simpa using hb
    rcases e' with z | z
    · rw [z]; exact ⟨_, he, fun v q => nomatch q⟩
    · rw [z]; exact ⟨o, ho, fun v q => by rw [hd] at q; cases q⟩
  keep := fun i h h' st k => let ⟨⟨old, he⟩, hi, hne⟩ := st; ⟨⟨old, k e (by simp) _ he⟩, hi.at fun o q => k it (by simp) o q, hne⟩
  item := by
    intro X hP hw hK hc i pins s σ H E I hf st hg
    subst hP hw hK
    obtain ⟨⟨old, he⟩, hit, hne, hae, hai⟩ := st
    obtain ⟨xs, x, hq, hx⟩ := hg
    obtain ⟨its, rv, p, hz⟩ := I.tuple hq
    obtain ⟨u, hu, ru⟩ := rv.get hx
    have hel : e < s.heap.objs.size := Heap.lt_size he
    have hil : it < s.heap.objs.size := by obtain ⟨_, q, _⟩ := hit; exact Heap.lt_size q
    have hlt : i < its.toArray.size := by
      have := (List.getElem?_eq_some_iff.mp hu).1
      simpa using this
    refine wpAny_pyNext_enum_itemD (Draws.tuple (show X.A.in1.handled = none from I.ok.hd hc) it a hai its.toArray) he ⟨hit, p⟩ hlt hne (by simp only [List.mem_cons, List.not_mem_nil, or_false, not_or]; exact ⟨hne, Ne.symm hae⟩) fun y h' tk hy ho hst' hT hsz hk => ?_
    have hu' : its.toArray[i]? = some u := by simpa using hu
    have hyu : y = u := by
      have e3 : its.toArray[i]? = some y := hy
      rw [hu'] at e3
      exact (Option.some.inj e3).symm
    subst hyu
    refine ⟨_, rfl, wpAny_letOwnedTupleGo_enum (s := { s with heap := h', toks := tk + 1 }) ho fun h'' he' sb => ?_⟩
    have hT2 : h''.get? s.heap.objs.size = some { cls := .type "tuple", data := .seq #[.int i tk, y] } := (sb.2 _ (Nat.ne_of_gt hel)).trans hT
    have new : ObjOk X.prog X.w (upd H s.heap.objs.size (.tup [.int (i : Nat), x])) h'' s.heap.objs.size (.tup [.int (i : Nat), x]) :=
      ⟨by show 2 ≤ sizeLine; decide, [.int i tk, y], .cons ⟨_, rfl⟩ (.cons ru .nil), ⟨_, hT2, rfl, _, rfl⟩⟩
    have I1 : Inv X pins σ (upd H s.heap.objs.size (.tup [.int (i : Nat), x])) { s with heap := h'', toks := tk + 1 } :=
      I.turnedNew (ch := [e, it]) (fun b ob hb q => (sb.2 b (fun z => hb (by simp [z]))).trans (hk b ob (fun z => hb (by simp [z])) (fun z => hb (by simp [z])) q)) hf (Nat.le_refl _) new
    refine ⟨.ref s.heap.objs.size, _, I1, rfl, ⟨_, x, rfl, I.hok.fresh (Nat.le_refl _), rfl, fun ys hy => by rw [I.tuple_inj hy hq]; exact hx⟩, ⟨⟨y, ?_⟩, hst'.1.at fun o q => (sb.2 it (Ne.symm hne)).trans q, hne, hae, hai⟩, fun b hb => ?_⟩
    · have e1 : ((i + 1 : Nat) : Int) = (i : Int) + 1 := by omega
      rw [e1]; exact he'
    · have hb' : b < s.heap.objs.size := by
        have e' : b = e ∨ b = it := by simpa using hb
        rcases e' with z | z
        · rw [z]; exact hel
        · rw [z]; exact hil
      rw [upd_ne (Nat.ne_of_lt hb')]
      exact (hf b hb).1
  done := by
    intro X hP hw hK hc i pins s σ H E I hf st hg
    subst hP hw hK
    obtain ⟨⟨old, he⟩, hit, hne, hae, hai⟩ := st
    obtain ⟨xs, hq, hx⟩ := hg
    obtain ⟨its, rv, p, hz⟩ := I.tuple hq
    obtain ⟨f0, f1, f2, f3, f4, f5⟩ := hf it (by simp)
    have hl := rv.length
    have hn : its.toArray.size = i := by simp; omega
    subst hn
    exact wpAny_pyNext_enum_endD (Draws.tuple (show X.A.in1.handled = none from I.ok.hd hc) it a hai its.toArray) he ⟨hit, p⟩ fun h' eb => ⟨rfl, I.turned (t' := s.toks) (fun b o hb q => eb b o hb q) f0 f1 f3 f4 f5⟩
  self := fun A i s Q E st h => let ⟨⟨_, he⟩, _⟩ := st; wpAny_pyIter_enum he h
def iEnumA (K : PySem.W.Frag) (ta : TA) : TI := fun σ H R => ta σ H fun vs H1 => ∃ a xs, vs = [.ref a] ∧ ((SqL K H1 a xs ∧ R (Ite K a) H1) ∨ (SqT K H1 a xs ∧ R (IteT K a) H1))
theorem pi_enumA {X : Cx} {e : Expr} {ta : TA} {p pos tpos : Pos} {elts : List Expr} {kk : Nat} (hg : Gl X "enumerate") (hm : X.mg "enumerate" = none) (ha : PA X [e] ta) (hs : starEach [e] X.env = [(false, eval e X.env)] := by rfl) :
    PI X (.Tuple elts kk tpos) (.Call (.Name "enumerate" p) [e] [] pos) (iEnumA X.K ta) := by
  refine ⟨fun pins s σ H R I h => ?_⟩
  refine Call_ (ld_blt I hg hm boot_enumerate (PyProof.Rows.callWith_type1 (thn (ha.run pos pins s σ H _ I h) fun us s1 ⟨vs, H1, I1, r1, q1⟩ => ?_) hs rfl))
  obtain ⟨a, xs, ex, q1⟩ := q1
  subst ex
  cases r1 with
  | cons r rr =>
    cases rr
    cases r
    have fresh : ∀ b, b ∈ [s1.heap.objs.size + 1, s1.heap.objs.size] → FpOk X pins H1 b := fun b hb => by
      have e' : b = s1.heap.objs.size + 1 ∨ b = s1.heap.objs.size := by simpa using hb
      have hle : s1.heap.objs.size ≤ b := by
        rcases e' with z | z
        · rw [z]; exact Nat.le_add_right _ _
        · rw [z]; exact Nat.le_refl _
      exact I1.fpOk hle (I1.hok.fresh hle)
    rcases q1 with ⟨hq, q⟩ | ⟨hq, q⟩
    · obtain ⟨its, rv, p', hz⟩ := I1.list hq
      refine call_enumerate_list p'.isList fun h' he hit hsz hk => wpAny_pyIter_enum he ?_
      have I2 : Inv X pins σ H1 { s1 with heap := h' } := I1.kept (t' := s1.toks) hk
      exact ⟨s1.heap.objs.size + 1, [s1.heap.objs.size + 1, s1.heap.objs.size], _, _, H1, rfl, I2, turn_enum a (s1.heap.objs.size + 1) s1.heap.objs.size, ⟨⟨.none, he⟩, hit, Nat.succ_ne_self _⟩, fresh, q⟩
    · obtain ⟨its, rv, p', hz⟩ := I1.tuple hq
      obtain ⟨o1, ho1, _⟩ := id p'
      have hal : a < s1.heap.objs.size := Heap.lt_size ho1
      refine call_enum1 (begins_tuple a its.toArray) (show s1.heap.IsTuple a its.toArray from p') fun h' he hit hsz hk => wpAny_pyIter_enum he ?_
      have I2 : Inv X pins σ H1 { s1 with heap := h' } := I1.kept (t' := s1.toks) hk
      exact ⟨s1.heap.objs.size + 1, [s1.heap.objs.size + 1, s1.heap.objs.size], _, _, H1, rfl, I2, turn_enumT a (s1.heap.objs.size + 1) s1.heap.objs.size, ⟨⟨.none, he⟩, ⟨_, hit, rfl, rfl⟩, Nat.succ_ne_self _, Nat.ne_of_lt (Nat.lt_succ_of_lt hal), Nat.ne_of_lt hal⟩, fresh, q⟩
def enumD : Nat → List D → List D
  | _, [] => []
  | k, d :: ds => .tuple [.int (k : Nat), d] :: enumD (k + 1) ds
theorem enumD_len : ∀ (k : Nat) (ds : List D), (enumD k ds).length = ds.length
  | _, [] => rfl
  | k, d :: ds => by rw [enumD, List.length_cons, List.length_cons, enumD_len (k + 1) ds]
theorem enumD_get : ∀ {ds : List D} (k : Nat) {i : Nat} {d : D}, ds[i]? = some d → (enumD k ds)[i]? = some (.tuple [.int ((k + i : Nat) : Int), d])
  | [], _, _, _, h => by simp at h
  | d :: ds, k, 0, _, h => by cases h; rfl
  | d :: ds, k, i + 1, _, h => by
    rw [List.getElem?_cons_succ] at h
    rw [enumD, List.getElem?_cons_succ, enumD_get (k + 1) h]
    have : k + 1 + i = k + (i + 1) := by omega
    rw [this]
def byValT : W → Option (List D)
  | .dat (.list ds) => some ds
  | .dat (.tuple ds) => some ds
  | .new ds => some ds
  | _ => none
def mEnum (m : ME) : MI := fun η S => (m η S).bind fun p => (byValT p.1).map fun ds => (enumD 0 ds, none, p.2)
def YEnum (f : Nat → Option V) (i : Nat) (H : Hp) (v : V) (H' : Hp) : Prop := ∃ T x, v = .ref T ∧ H T = none ∧ H' = L2.upd H T (.tup [.int (i : Nat), x]) ∧ f i = some x
theorem turns_enum {K : PySem.W.Frag} {β : Ad} {H : Hp} {J : It} {xs : List V} {ds : List D} {G : Hp → Prop} (c : CellL β H) (w : Walk J xs.length G (YEnum fun i => xs[i]?)) (ra : BpA K β H xs ds)
    (hG : ∀ H1, KeepA β H H1 → G H1) : Turns K β H J (enumD 0 ds) none := by
  have hl : xs.length = (enumD 0 ds).length := by rw [enumD_len, ra.len]
  rw [hl] at w
  refine ⟨G, _, w, fun β' S1 H1 g gc k c1 _ => ⟨hG H1 k, fun i x H2 hi y => ?_⟩⟩
  obtain ⟨T, x1, rfl, nT, rfl, f1⟩ := y
  obtain ⟨d1, g1, b1⟩ := ra.get f1
  have k2 : KeepA β H (L2.upd H1 T (.tup [.int (i : Nat), x1])) := fun a o e => (k a o e).imp id (same_upd nT a o)
  have g2 := enumD_get 0 g1
  rw [Nat.zero_add] at g2
  exact ⟨same_upd nT, .tuple [.int (i : Nat), d1], g2, .tup (SqT.of upd_same) (.cons (.int _) (.cons (b1.keepA c k2 g.new) .nil))⟩
theorem walk_enumL {K : PySem.W.Frag} {a : Addr} {xs : List V} : Walk (Ite K a) xs.length (fun H => SqL K H a xs) (YEnum fun i => xs[i]?) := by
  refine ⟨fun i H hi q => ?_, fun H q => ⟨xs, q, by omega⟩, fun i H v H' hi q y => ?_⟩
  · exact ⟨xs, xs[i], q, List.getElem?_eq_getElem _⟩
  · obtain ⟨T, x, y1, y2, y3, y4⟩ := y
    exact ⟨T, x, y1, y2, y3, y4 xs q⟩
theorem walk_enumT {K : PySem.W.Frag} {a : Addr} {xs : List V} : Walk (IteT K a) xs.length (fun H => SqT K H a xs) (YEnum fun i => xs[i]?) := by
  refine ⟨fun i H hi q => ?_, fun H q => ⟨xs, q, rfl⟩, fun i H v H' hi q y => ?_⟩
  · exact ⟨xs, xs[i], q, List.getElem?_eq_getElem _⟩
  · obtain ⟨T, x, y1, y2, y3, y4⟩ := y
    exact ⟨T, x, y1, y2, y3, y4 xs q⟩
section
variable {X : Cx}
theorem di_enum {e : Expr} {m : ME} {p pos tpos : Pos} {elts : List Expr} {kk : Nat} (hg : Gl X "enumerate") (hm : X.mg "enumerate" = none) (he : DE X e m) (hs : starEach [e] X.env = [(false, eval e X.env)] := by rfl) :
    DI X (.Tuple elts kk tpos) (.Call (.Name "enumerate" p) [e] [] pos) (mEnum m) :=
  (pi_enumA hg hm (da_cons he da_nil (by exact hs)) hs).imp fun σ H R ⟨β, η, S, ds, g, S', SR0, e, q⟩ => by
    unfold mEnum at e
    cases e1 : m η S with
    | none => rw [e1] at e; cases e
    | some p =>
      obtain ⟨w, S1⟩ := p
      rw [e1] at e
      simp only [Option.bind_some] at e
      refine ⟨β, η, S, [w], S1, SR0, ?_, fun vs H1 k c r => ?_⟩
      · unfold mCons mNil
        rw [e1]
        rfl
      · obtain ⟨v, rfl, rv⟩ := (r.rva SR0.cl).one
        cases h : byValT w with
        | none => rw [h] at e; cases e
        | some es =>
          rw [h] at e
          cases e
          cases w with
          | dat d =>
            cases d with
            | list ds =>
              cases h
              obtain ⟨a, xs, rfl, na, hx, rx⟩ := rv.byVal (ds := es) rfl
              exact ⟨a, xs, rfl, .inl ⟨SqL.of hx, q _ _ k c (turns_enum c.cl walk_enumL rx fun H2 k2 => SqL.of ((k2 _ _ hx).resolve_left na))⟩⟩
            | tuple ds =>
              cases h
              obtain ⟨a, xs, rfl, hx, rx⟩ := rv.tuple (ds := es) rfl
              exact ⟨a, xs, rfl, .inr ⟨hx, q _ _ k c (turns_enum c.cl walk_enumT rx fun H2 k2 => BV.SqT.keep c.cl k2 hx)⟩⟩
            | none => cases h
            | bool _ => cases h
            | int _ => cases h
            | str _ => cases h
            | dict _ => cases h
          | new ds =>
            cases h
            obtain ⟨a, xs, rfl, na, hx, rx⟩ := rv.byVal (ds := es) rfl
            exact ⟨a, xs, rfl, .inl ⟨SqL.of hx, q _ _ k c (turns_enum c.cl walk_enumL rx fun H2 k2 => SqL.of ((k2 _ _ hx).resolve_left na))⟩⟩
          | frz ds => cases h
          | hd n => cases h
end
end BV
set_option Elab.async false
set_option linter.all false
set_option maxRecDepth 100000
namespace BV
open PySem PySem.Spec PyProof.Rows L2

/-! ### keywords alone -/
theorem pick_vals {is : List Nat} {zs : List V} {ws : List Value} (h : Vals zs ws) : ∀ {us : List V}, pick is zs = some us → ∃ us', pick is ws = some us' ∧ Vals us us' := by
  induction is with
  | nil => intro us e; cases e; exact ⟨[], rfl, .nil⟩
  | cons i is ih =>
    intro us e
    unfold pick at e
    cases e1 : zs[i]? with
    | none => rw [e1] at e; cases e
    | some z =>
      rw [e1] at e
      simp only [Option.bind_some] at e
      cases e2 : pick is zs with
      | none => rw [e2] at e; cases e
      | some us1 =>
        rw [e2] at e
        cases e
        obtain ⟨u, hu, ru⟩ := h.get e1
        obtain ⟨us', h1, h2⟩ := ih e2
        refine ⟨u :: us', ?_, .cons ru h2⟩
        unfold pick
        rw [hu, h1]
        rfl
theorem pick_len {α : Type} {is : List Nat} {ws us : List α} (h : pick is ws = some us) : us.length = is.length := by
  induction is generalizing us with
  | nil => cases h; rfl
  | cons i is ih =>
    unfold pick at h
    cases e1 : ws[i]? with
    | none => rw [e1] at h; cases h
    | some z =>
      rw [e1] at h
      simp only [Option.bind_some] at h
      cases e2 : pick is ws with
      | none => rw [e2] at h; cases h
      | some us1 =>
        rw [e2] at h
        cases h
        rw [List.length_cons, List.length_cons, ih e2]
theorem RvA.pick {K : PySem.W.Frag} {β : Ad} {H : Hp} {is : List Nat} {vs : List V} {ws : List W} (h : RvA K β H vs ws) : ∀ {us : List W}, BV.pick is ws = some us → ∃ vs', BV.pick is vs = some vs' ∧ RvA K β H vs' us := by
  have get : ∀ {vs : List V} {ws : List W} {i : Nat} {w : W}, RvA K β H vs ws → ws[i]? = some w → ∃ v, vs[i]? = some v ∧ Rv K β H v w := by
    intro vs ws i w h
    induction h generalizing i with
    | nil => intro e; simp at e
    | cons r _ ih =>
      intro e
      cases i with
      | zero => cases e; exact ⟨_, rfl, r⟩
      | succ i =>
        rw [List.getElem?_cons_succ] at e
        obtain ⟨v, h1, h2⟩ := ih e
        exact ⟨v, by rw [List.getElem?_cons_succ]; exact h1, h2⟩
  induction is with
  | nil => intro us e; cases e; exact ⟨[], rfl, .nil⟩
  | cons i is ih =>
    intro us e
    unfold BV.pick at e
    cases e1 : ws[i]? with
    | none => rw [e1] at e; cases e
    | some z =>
      rw [e1] at e
      simp only [Option.bind_some] at e
      cases e2 : BV.pick is ws with
      | none => rw [e2] at e; cases e
      | some us1 =>
        rw [e2] at e
        cases e
        obtain ⟨u, hu, ru⟩ := get h e1
        obtain ⟨us', h1, h2⟩ := ih e2
        refine ⟨u :: us', ?_, .cons ru h2⟩
        unfold BV.pick
        rw [hu, h1]
        rfl
section
variable {X : Cx} {CX : CXT} {k : Nat} {f : Addr} {fd : FuncData} {ps ks : List Str} {is : List Nat} {sp : Sp} {E : XK} {x : Str} {p pos kpos : Pos} {kws : List Keyword} {tk : TA} {nm : Option Str}
/-- f(k = v, ..) -/
theorem pe_callK0 (hG : X.A.guards = some []) (F : FnG X.prog X.w X.K X.mg X.base CX k f fd ps sp) (hr : Room k X.A) (hg : Gl X x) (hm : X.mg x = some (.ref f)) (hk : PySem.W.keepIn X.K (.ref f) = true) (hb : KB X.K fd ps ks is) (hx : Passes CX X E)
    (hkw : PK X kws tk) (hall : (backToKw pos (keywordEach kws X.env)).all (·.1.isSome) = true := by rfl) (hks : (backToKw pos (keywordEach kws X.env)).filterMap (·.1) = ks := by rfl)
    (hdb : (x == ("__debug__" : Str)) = false := by decide) (hpl : ((backTo pos (starEach [] X.env)).any (·.1) || (backToKw pos (keywordEach kws X.env)).any (·.1.isNone)) = false := by rfl) :
    PE X (.Call (.Name x p) [] kws pos) (fun σ H Q => tk σ H fun zs H2 => zs.length = ks.length ∧ ∃ us, pick is zs = some us ∧ sp us H2 Q E) := by
  refine ⟨fun pins s σ H Q I h => ?_⟩
  refine wpAny_Call_Name_kw (ld_glob I hg hm ?_ hdb)
  refine PySem.W.callWith_KW0 (h₀ := X.base) I.ok.mod.kin hk hall (thn (hkw.run pos pins s σ H _ I h) fun ws s2 ⟨zs, H2, I2, rz, hl, us, hp, q⟩ => ⟨I2.kIn, ?_⟩) hpl
  rw [hks]
  obtain ⟨us', h1, h2⟩ := pick_vals rz hp
  refine wpAny_call (codeAny_mono (F.run X.A X.stack s2 H2 ⟨[], ks.zip ws⟩ us' us Q E hG hr I2.env0 (hb s2 ws us' I2.kIn (by rw [← rz.length]; exact hl) h1) h2 q) fun r s' hq => ?_)
  cases r with
  | error e => exact hx pins σ H2 s2 e s' I2 hq
  | ok fl =>
    cases fl with
    | ret u => exact I2.after hq
    | next => exact False.elim hq
    | brk => exact False.elim hq
    | cont => exact False.elim hq
abbrev DK (X : Cx) (kws : List Keyword) (m : MA) : Prop := PK X kws (tVs X.K m)
theorem _root_.L2.PK.imp {t t' : TA} (h : PK X kws t) (i : ∀ σ H Q, t' σ H Q → t σ H Q) : PK X kws t' := ⟨fun pos pins s σ H Q I q => h.run pos pins s σ H Q I (i σ H Q q)⟩
theorem dk_nil : DK X [] mNil := pk_nil.imp fun σ H Q ⟨β, η, S, ws, S', R, e, q⟩ => by
  cases e
  exact q [] H Keep.refl R.cells ⟨[], .nil, List.nodup_nil, (fun _ h => by cases h), R.cells⟩
theorem dk_cons {e : Expr} {ma : ME} {mr : MA} (ha : DE X e ma) (hr : DK X kws mr) : DK X (⟨nm, e, kpos⟩ :: kws) (mCons ma mr) := (pk_cons ha hr).imp fun σ H Q h => tVs_cons h
def mFnK (n : Nat) (is : List Nat) (F : MF) (m : MA) : ME := fun η S => (m η S).bind fun p => (pick is p.1).bind fun us => if us.length = n then F (us.map arg) p.2 else none
theorem de_ownK {n j l : Nat} {kss : List (List Str × List Nat)} {F : MF} {m : MA} (ks : List Str) (is : List Nat) (hG : X.A.guards = some []) (o : OwnX X.prog X.w X.K X.mg X.base x j ps kss F) (hq : (ks, is) ∈ kss) (hn : ps.length = n) (hl : ks.length = l) (hr : Room k X.A) (hj : (decide (j ≤ k)) = true) (hg : Gl X x) (ha : DK X kws m) (hlen : ∀ η S ws S', m η S = some (ws, S') → ws.length = l)
    (hall : (backToKw pos (keywordEach kws X.env)).all (·.1.isSome) = true := by rfl) (hks : (backToKw pos (keywordEach kws X.env)).filterMap (·.1) = ks := by rfl)
    (hdb : (x == ("__debug__" : Str)) = false := by decide) (hpl : ((backTo pos (starEach [] X.env)).any (·.1) || (backToKw pos (keywordEach kws X.env)).any (·.1.isNone)) = false := by rfl) :
    DE X (.Call (.Name x p) [] kws pos) (mFnK n is F m) := by
  subst hn
  obtain ⟨f, fd, G, hm, hk, _, hb⟩ := o.ex
  refine (pe_callK0 (E := E0) hG G (hr.mono (of_decide_eq_true hj)) hg hm hk (hb _ hq) pass0 ha hall hks hdb hpl).imp fun σ H Q h => ?_
  obtain ⟨β, η, S, w, S', R, e, q⟩ := h
  unfold mFnK at e
  cases e1 : m η S with
  | none => rw [e1] at e; cases e
  | some pr =>
    obtain ⟨ws, S1⟩ := pr
    rw [e1] at e
    simp only [Option.bind_some] at e
    refine ⟨β, η, S, ws, S1, R, e1, fun vs H1 k1 c1 r1 => ?_⟩
    have rv := r1.rva R.cl
    have hl2 := hlen _ _ _ _ e1
    refine ⟨by rw [rv.len, hl2, hl], ?_⟩
    cases e2 : pick is ws with
    | none => rw [e2] at e; cases e
    | some us =>
      rw [e2] at e
      simp only [Option.bind_some] at e
      split at e
      · rename_i hu
        obtain ⟨vs', h1, h2⟩ := rv.pick e2
        refine ⟨vs', h1, by rw [h2.len]; exact hu, β, S1, us.map arg, w, S', c1, h2.args, e, fun v H2 k2 c2 r2 => q v H2 (k1.trans k2) c2 (r2.back c1.cl k1)⟩
      · cases e
theorem cons_len {ma : ME} {mr : MA} {l : Nat} (h : ∀ η S ws S', mr η S = some (ws, S') → ws.length = l) : ∀ η S ws S', mCons ma mr η S = some (ws, S') → ws.length = l + 1 := by
  intro η S ws S' e
  unfold mCons at e
  cases e1 : ma η S with
  | none => rw [e1] at e; cases e
  | some p =>
    rw [e1] at e
    simp only [Option.bind_some] at e
    cases e2 : mr η p.2 with
    | none => rw [e2] at e; cases e
    | some q =>
      rw [e2] at e
      cases e
      rw [List.length_cons, h _ _ _ _ e2]
theorem nil_len : ∀ η S ws S', mNil η S = some (ws, S') → ws.length = 0 := by
  intro η S ws S' e
  cases e
  rfl
end
end BV
set_option Elab.async false
set_option linter.all false
set_option maxRecDepth 100000
namespace BV
open PySem PySem.Spec PyProof.Rows L2

/-! ### isinstance of built-in classes -/
def tyW : W → Option String
  | .dat .none => some "NoneType"
  | .dat (.bool _) => some "bool"
  | .dat (.int _) => some "int"
  | .dat (.str _) => some "str"
  | .dat (.list _) => some "list"
  | .dat (.tuple _) => some "tuple"
  | .dat (.dict _) => none
  | .new _ => some "list"
  | .hd _ => some "list"
  | .frz _ => some "list"
def isB (t n : String) : Bool := t == n || (t == "bool" && n == "int")
theorem knows : ∀ t ∈ ["NoneType", "bool", "int", "str", "list", "tuple"], ∀ n ∈ ["int", "bool", "str", "list", "tuple"], kitB t n = some (isB t n) := by decide +kernel
def isiW (ns : List String) (w : W) : Option Bool := (tyW w).map fun t => ns.any fun n => isB t n
def mIsi (ns : List String) (m : ME) : ME := fun η S => (m η S).bind fun p => (isiW ns p.1).map fun b => (.dat (.bool b), p.2)
theorem Rv.ty {K : PySem.W.Frag} {β : Ad} {S : Sto} {H : Hp} {v : V} {w : W} {t : String} (c : Cells K β S H) (h : Rv K β H v w) (e : tyW w = some t) : TyX K H v (.type t) ∧ t ∈ ["NoneType", "bool", "int", "str", "list", "tuple"] := by
  cases w with
  | dat d =>
    have h : Bp K β H v d := h
    cases d with
    | none => cases e; cases h; exact ⟨.base .non, by simp⟩
    | bool b => cases e; cases h; exact ⟨.base (.bl b), by simp⟩
    | int i => cases e; cases h; exact ⟨.base (.int i), by simp⟩
    | str x => cases e; cases h; exact ⟨.base (.str x), by simp⟩
    | list ds => cases e; cases h with | lst n q r => exact ⟨.base (.lst q), by simp⟩
    | tuple ds =>
      cases e
      cases h with
      | tup q r =>
        refine ⟨?_, by simp⟩
        rcases q with (q | ⟨o, q⟩) | ⟨o, its, n, lk, hc, _⟩
        · exact .base (.tup q)
        · exact .fTuple q
        · exact .kTuple lk hc
    | dict _ => cases e
  | new ds =>
    cases e
    obtain ⟨a, xs, rfl, na, q, r⟩ := h
    exact ⟨.base (.lst q), by simp⟩
  | frz ds =>
    cases e
    obtain ⟨a, xs, rfl, q, r⟩ := (show Rw K β H v (.frz ds) from h)
    refine ⟨?_, by simp⟩
    rcases q with ⟨o, q⟩ | ⟨o, its, n, lk, hc, _⟩
    · exact .base (.frz q)
    · exact .kList lk hc
  | hd n =>
    cases e
    obtain ⟨a, ea, rfl⟩ := (show Rw K β H v (.hd n) from h)
    obtain ⟨xs, q⟩ := c.cl.2 a (c.cl.1 a (List.mem_of_getElem? ea))
    exact ⟨.base (.lst q), by simp⟩
theorem _root_.L2.TyX.up {K : PySem.W.Frag} {H : Hp} {x : V} {t : Value} {p : Addr} {o : HO} (hp : H p = none) (h : TyX K H x t) : TyX K (L2.upd H p o) x t := by
  have k : ∀ a o', H a = some o' → L2.upd H p o a = some o' := same_upd hp
  cases h with
  | base b =>
    cases b with
    | non => exact .base .non
    | bl y => exact .base (.bl y)
    | int i => exact .base (.int i)
    | str y => exact .base (.str y)
    | flt y => exact .base (.flt y)
    | lst e => exact .base (.lst (k _ _ e))
    | frz e => exact .base (.frz (k _ _ e))
    | tup e => exact .base (.tup (k _ _ e))
    | dK e => exact .base (.dK (k _ _ e))
    | dT e => exact .base (.dT (k _ _ e))
    | ins e cl ha hn htk hm => exact .base (.ins (k _ _ e) cl ha hn htk hm)
  | byt b => exact .byt b
  | set e => exact .set (k _ _ e)
  | kList e c => exact .kList e c
  | kTuple e c => exact .kTuple e c
  | kDict e c => exact .kDict e c
  | fTuple e => exact .fTuple (k _ _ e)
  | fDict e => exact .fDict (k _ _ e)
section
variable {X : Cx} {e : Expr} {m : ME} {p pos q1 q2 tpos : Pos}
theorem de_isi1 (n : String) (u : Str) (hn : n ∈ ["int", "bool", "str", "list", "tuple"]) (hu : bootBuiltins u = some (.type n)) (hg : Gl X "isinstance") (hm : X.mg "isinstance" = none) (hgn : Gl X u) (hmn : X.mg u = none) (he : DE X e m)
    (hb : bootBuiltins "isinstance" = some (.builtin "isinstance") := by decide +kernel) (h1 : u ≠ "__name__" := by decide) (h2 : (u == ("__debug__" : Str)) = false := by decide)
    (hs : starEach [e, .Name u q1] X.env = (false, eval e X.env) :: starEach [.Name u q1] X.env := by rfl) (hs2 : starEach [.Name u q1] X.env = (false, eval (.Name u q1) X.env) :: starEach [] X.env := by rfl)
    (hpl : (backTo pos (starEach [.Name u q1] X.env)).any (·.1) = false := by rfl) : DE X (.Call (.Name "isinstance" p) [e, .Name u q1] [] pos) (mIsi [n] m) :=
  (pe_callB call_isi hg hm hb (pa_cons he (pa_cons (pe_bltn (v := .ty n) hgn hmn hu rfl h1 h2) pa_nil hs2) hs) (by decide) (by decide) hs hpl).imp fun σ H Q ⟨β, η, S, w, S', R, e, q⟩ => by
    unfold mIsi at e
    cases e1 : m η S with
    | none => rw [e1] at e; cases e
    | some pr =>
      obtain ⟨w1, S1⟩ := pr
      rw [e1] at e
      simp only [Option.bind_some] at e
      refine ⟨β, η, S, w1, S1, R, e1, fun v H1 k c r => ?_⟩
      unfold isiW at e
      cases ht : tyW w1 with
      | none => rw [ht] at e; cases e
      | some t =>
        rw [ht] at e
        cases e
        obtain ⟨tx, tm⟩ := (r.rv R.cl).ty c ht
        have kn := knows t tm n hn
        have ea : ([n].any fun n => isB t n) = isB t n := by simp
        refine ⟨v, .ty n, .type t, .type n, isB t n, rfl, .ty n, tx, kit_ty kn, ?_⟩
        dsimp only at q; rw [ea] at q
        exact q (.bl (isB t n)) H1 k c (.bl _)
theorem de_isi2 (n n' : String) (u u' : Str) (hn : n ∈ ["int", "bool", "str", "list", "tuple"]) (hn' : n' ∈ ["int", "bool", "str", "list", "tuple"]) (hu : bootBuiltins u = some (.type n)) (hu' : bootBuiltins u' = some (.type n')) (hg : Gl X "isinstance") (hm : X.mg "isinstance" = none) (hgn : Gl X u) (hmn : X.mg u = none) (hgn' : Gl X u') (hmn' : X.mg u' = none) (he : DE X e m) {kk : Nat}
    (hb : bootBuiltins "isinstance" = some (.builtin "isinstance") := by decide +kernel) (h1 : u ≠ "__name__" := by decide) (h2 : (u == ("__debug__" : Str)) = false := by decide) (h3 : u' ≠ "__name__" := by decide) (h4 : (u' == ("__debug__" : Str)) = false := by decide)
    (hs : starEach [e, .Tuple [.Name u q1, .Name u' q2] kk tpos] X.env = (false, eval e X.env) :: starEach [.Tuple [.Name u q1, .Name u' q2] kk tpos] X.env := by rfl) (hs2 : starEach [.Tuple [.Name u q1, .Name u' q2] kk tpos] X.env = (false, eval (.Tuple [.Name u q1, .Name u' q2] kk tpos) X.env) :: starEach [] X.env := by rfl)
    (hs3 : starEach [.Name u q1, .Name u' q2] X.env = (false, eval (.Name u q1) X.env) :: starEach [.Name u' q2] X.env := by rfl) (hs4 : starEach [.Name u' q2] X.env = (false, eval (.Name u' q2) X.env) :: starEach [] X.env := by rfl)
    (hpl : (backTo pos (starEach [.Tuple [.Name u q1, .Name u' q2] kk tpos] X.env)).any (·.1) = false := by rfl) : DE X (.Call (.Name "isinstance" p) [e, .Tuple [.Name u q1, .Name u' q2] kk tpos] [] pos) (mIsi [n, n'] m) :=
  (pe_callB call_isiT hg hm hb (pa_cons he (pa_cons (pe_tup (pa_cons (pe_bltn (v := .ty n) hgn hmn hu rfl h1 h2) (pa_cons (pe_bltn (v := .ty n') hgn' hmn' hu' rfl h3 h4) pa_nil hs4) hs3)) pa_nil hs2) hs) (by decide) (by decide) hs hpl).imp fun σ H Q ⟨β, η, S, w, S', R, e, q⟩ => by
    unfold mIsi at e
    cases e1 : m η S with
    | none => rw [e1] at e; cases e
    | some pr =>
      obtain ⟨w1, S1⟩ := pr
      rw [e1] at e
      simp only [Option.bind_some] at e
      refine ⟨β, η, S, w1, S1, R, e1, fun v H1 k c r => ?_⟩
      unfold isiW at e
      cases ht : tyW w1 with
      | none => rw [ht] at e; cases e
      | some t =>
        rw [ht] at e
        cases e
        obtain ⟨tx, tm⟩ := (r.rv R.cl).ty c ht
        have kn := knows t tm n hn
        have kn' := knows t tm n' hn'
        refine ⟨by show 2 ≤ sizeLine; decide, fun tp htp => ?_⟩
        have ea : ([n, n'].any fun n => isB t n) = (isB t n || isB t n') := by simp
        refine ⟨v, tp, [.ty n, .ty n'], .type t, [.type n, .type n'], isB t n || isB t n', rfl, upd_same, .cons (.ty n) (.cons (.ty n') .nil), tx.up htp, ?_, ?_⟩
        · refine kitAny_cons (kit_ty kn) (fun h => ?_) (fun h => by rw [h]; rfl)
          rw [h, Bool.false_or]
          refine kitAny_cons (kit_ty kn') (fun h2 => by rw [h2]; exact kitAny_nil) (fun h2 => h2)
        · dsimp only at q; rw [ea] at q
          exact q (.bl _) _ (k.trans (keep_upd htp)) (c.upd htp) (.bl _)
end
end BV
set_option Elab.async false
set_option linter.all false
set_option maxRecDepth 100000
namespace BV
open PySem PySem.Spec PyProof.Rows L2

/-! ### while, with fuel -/
def wfuel : Nat := 1000000
def whileF (t : MT) (mb : MS) : Nat → MS
  | 0 => fun _ _ => none
  | n + 1 => fun η S => (t η S).bind fun p => if p.1 = true then (mb η p.2).bind fun q => match q.1 with
    | .next => whileF t mb n q.2.1 q.2.2
    | .cont => whileF t mb n q.2.1 q.2.2
    | .brk => some (.next, q.2.1, q.2.2)
    | .ret w => some (.ret w, q.2.1, q.2.2)
    else some (.next, η, p.2)
theorem whileF_more {t : MT} {mb : MS} : ∀ {n k : Nat} {η : Env} {S : Sto} {r : Fl × Env × Sto}, whileF t mb n η S = some r → whileF t mb (n + k) η S = some r
  | 0, k, η, S, r, e => by cases e
  | n + 1, k, η, S, r, e => by
    rw [show n + 1 + k = (n + k) + 1 by omega]
    unfold whileF at e ⊢
    cases e1 : t η S with
    | none => rw [e1] at e; cases e
    | some p =>
      obtain ⟨bo, S1⟩ := p
      rw [e1] at e
      cases bo with
      | false => exact e
      | true =>
        simp only [Option.bind_some, if_true] at e ⊢
        cases e2 : mb η S1 with
        | none => rw [e2] at e; cases e
        | some q =>
          obtain ⟨fl, η1, S2⟩ := q
          rw [e2] at e
          cases fl with
          | next => exact whileF_more (n := n) (k := k) e
          | cont => exact whileF_more (n := n) (k := k) e
          | brk => exact e
          | ret w => exact e
section
variable {K : PySem.W.Frag}
theorem tSt_while {t : MT} {mb : MS} {n : Nat} {D : Ends} {σ : L2.St} {H : Hp} (h : tSt K (whileF t mb n) D σ H) : tWhile (tT K t) (tSt K mb) D σ H := by
  obtain ⟨β, η, S, r, η', S', R, e, q⟩ := h
  let Wv : Nat → L2.St → Hp → Prop := fun m σ2 H2 => ∃ β2 η2 S2, Grown β β2 H ∧ (∀ a ∈ β2.ce, a ∈ β.ce ∨ H a = none) ∧ Keep β H H2 ∧ SR K β2 η2 S2 σ2 H2 ∧ whileF t mb m η2 S2 = some (r, η', S')
  have back : ∀ β2 (H2 : Hp), Grown β β2 H → Keep β H H2 → CellL β2 H2 → ∀ a, H2 a = none → H a = none := fun β2 H2 gr k2 c2 a en => by
    cases q : H a with
    | none => rfl
    | some o =>
      rcases k2 a o q with z | z
      · obtain ⟨xs, q1⟩ := c2.2 a (gr.al a (R.cl.1 a z))
        rw [en] at q1; cases q1
      · rw [en] at z; cases z
  refine ⟨Wv, ⟨n, β, η, S, Grown.refl, fun _ h => .inl h, Keep.refl, R, e⟩, fun m σ2 H2 w => ?_⟩
  obtain ⟨β2, η2, S2, gr, gc, k2, R2, e2⟩ := w
  cases m with
  | zero => cases e2
  | succ m =>
    unfold whileF at e2
    cases e3 : t η2 S2 with
    | none => rw [e3] at e2; cases e2
    | some p =>
      obtain ⟨bo, S3⟩ := p
      rw [e3] at e2
      refine ⟨β2, η2, S2, bo, S3, R2, e3, fun H3 k3 c3 => ?_⟩
      have R3 := R2.keep k3 c3
      have k23 : Keep β H H3 := gr.keep k2 R.cl k3 gc
      cases bo with
      | false =>
        simp only [Option.bind_some] at e2
        cases e2
        exact q β2 H3 gr gc k23 σ2 R3
      | true =>
        simp only [Option.bind_some, if_true] at e2
        show ∃ N : L2.St → Hp → Prop, _
        refine ⟨Wv m, fun σ4 H4 w4 => ⟨m, Nat.lt_succ_self _, w4⟩, ?_⟩
        cases e4 : mb η2 S3 with
        | none => rw [e4] at e2; cases e2
        | some p =>
          obtain ⟨r4, η4, S4⟩ := p
          rw [e4] at e2
          simp only [Option.bind_some] at e2
          refine ⟨β2, η2, S3, r4, η4, S4, R3, e4, fun β5 H5 g5 gc5 k5 => ?_⟩
          have bk := back β2 H3 gr k23 R3.cl
          have G5 : Grown β β5 H := gr.trans g5 bk
          have GC5 : ∀ a ∈ β5.ce, a ∈ β.ce ∨ H a = none := fun a ha => (gc5 a ha).elim (fun z => gc a z) fun z => .inr (bk a z)
          have K5 : Keep β H H5 := gr.keep k23 R.cl k5 gc
          cases r4 with
          | next => exact fun σ5 R5 => ⟨β5, η4, S4, G5, GC5, K5, R5, e2⟩
          | cont => exact fun σ5 R5 => ⟨β5, η4, S4, G5, GC5, K5, R5, e2⟩
          | brk =>
            cases e2
            exact fun σ5 R5 => q β5 H5 G5 GC5 K5 σ5 R5
          | ret w =>
            cases e2
            exact q.after R.cl R3.cl gr gc k23 β5 H5 g5 gc5 k5
end
section
variable {X : Cx} {c : Expr} {body : List Stmt} {t : MT} {mb : MS} {n : Nat} {pos : Pos}
theorem ds_while (hp : PassesOwn (model X.prog X.w) X.A X.env X.xe) (hc : DT X c t) (hb : DSs X body mb) : DS X (.While c body [] pos) (whileF t mb n) := (ps_while hp hc hb).imp fun D σ H h => tSt_while h
end
end BV
set_option Elab.async false
set_option linter.all false
set_option maxRecDepth 100000
namespace BV
open PySem PySem.Spec PyProof.Rows L2

/-! ### tuples at a module's head -/
structure TupIs (K : PySem.W.Frag) (d : Addr) (ds : List D) : Prop where
  at_ : ∃ xs, (∀ H, SqT K H d xs) ∧ ∀ β H, BpA K β H xs ds
theorem TupIs.bp {K : PySem.W.Frag} {d : Addr} {ds : List D} (T : TupIs K d ds) (β : Ad) (H : Hp) : Bp K β H (.ref d) (.tuple ds) := by
  obtain ⟨xs, h1, h2⟩ := T.at_
  exact .tup (h1 H) (h2 β H)
inductive StrsAre : List Value → List Str → Prop
  | nil : StrsAre [] []
  | cons {t xs zs} (x : Str) : StrsAre xs zs → StrsAre (.str x t :: xs) (x :: zs)
theorem StrsAre.vals : ∀ {us : List Value} {zs : List Str}, StrsAre us zs → Vals (zs.map V.str) us
  | _, _, .nil => .nil
  | _, _, .cons x r => .cons ⟨_, rfl⟩ r.vals
theorem StrsAre.bp {K : PySem.W.Frag} {β : Ad} {H : Hp} : ∀ zs : List Str, BpA K β H (zs.map V.str) (zs.map PyData.str)
  | [] => .nil
  | _ :: zs => .cons (.str _) (StrsAre.bp zs)
theorem TupIs.mk' {K : PySem.W.Frag} {d : Addr} {o : Obj} {its : Array Value} {n : Nat} {zs : List Str} (h1 : K.lookup d = some o) (h2 : o.cls = .type "tuple") (h3 : o.data = .seq its n) (h4 : its.size ≤ sizeLine) (h5 : StrsAre its.toList zs) : TupIs K d (zs.map .str) :=
  ⟨zs.map V.str, fun _ => .inr ⟨o, its, n, h1, h2, h3, h4, h5.vals⟩, fun _ _ => StrsAre.bp zs⟩
section
variable {X : Cx} {x : Str} {d : Addr} {ds : List D} {pos : Pos}
theorem de_gtup (T : TupIs X.K d ds) (hg : Gl X x) (hm : X.mg x = some (.ref d)) (hdb : (x == ("__debug__" : Str)) = false := by decide) : DE X (.Name x pos) (mDat (.tuple ds)) :=
  (pe_glob (v := .ref d) hg hm rfl hdb).imp fun _ _ _ h => tV_dat (fun β => T.bp β _) h
end
end BV
set_option Elab.async false
set_option linter.all false
set_option maxRecDepth 100000
namespace BV
open PySem PySem.Spec PyProof.Rows L2

/-! ### divmod, gcd, join -/
section
variable {K : PySem.W.Frag}
def fDivmod : Sto → List W → Option W := fun _ ws => match ws with
  | [u, z] => match iview u, iview z with
    | some i, some j => if 0 < j ∧ j < 1073741824 then some (.dat (.tuple [.int (i / j), .int (i % j)])) else none
    | _, _ => none
  | _ => none
theorem meets_divmod : MeetsC K (fun xs H Q => ∃ i j, xs = [.int i, .int j] ∧ CDiv i j ∧ ∀ p, H p = none → Q (.ref p) (L2.upd H p (.tup [.int (i / j), .int (i % j)]))) fDivmod := by
  intro β S H vs ws w Q c r e q
  unfold fDivmod at e
  split at e
  · split at e
    · rename_i hu hz
      split at e
      · rename_i hc
        cases e
        obtain ⟨v, v', rfl, rv, rv'⟩ := r.two
        have ev := rv.int hu
        have ev' := rv'.int hz
        subst ev ev'
        exact ⟨_, _, rfl, hc, fun p hp => q.tup c (.cons (.int _) (.cons (.int _) .nil)) hp⟩
      · cases e
    · cases e
  · cases e
def fGcd := f2Is fun i j => .int ((Nat.gcd i.natAbs j.natAbs : Nat) : Int)
theorem meets_gcd : MeetsC K rGcd fGcd := by
  intro β S H vs ws w Q c r e q
  obtain ⟨u, z, i, j, rfl, hu, hz, rfl⟩ := f2Is_inv e
  obtain ⟨v, v', rfl, rv, rv'⟩ := r.two
  have ev := rv.int hu
  have ev' := rv'.int hz
  subst ev ev'
  exact ⟨i, j, rfl, q.int c⟩
def strsD : List D → Option (List Str)
  | [] => some []
  | .str b :: ds => (strsD ds).map fun bs => b :: bs
  | _ => none
theorem strsD_ok {β : Ad} {H : Hp} : ∀ {vs : List V} {ds : List D} {bs : List Str}, BpA K β H vs ds → strsD ds = some bs → vs = bs.map V.str
  | _, _, _, .nil, e => by cases e; rfl
  | _, d :: ds, bs, .cons h r, e => by
    cases d with
    | str b =>
      replace e : (strsD ds).map (fun bs => b :: bs) = some bs := e
      cases e1 : strsD ds with
      | none => rw [e1] at e; cases e
      | some cs => rw [e1] at e; cases e; cases h; rw [strsD_ok r e1]; rfl
    | _ => cases e
def fJoin : F2 := fun S a b => match strview a, seqview S b with
  | some x, some ds => match strsD ds with
    | some ys => if (ys.map (·.length)).sum + ys.length * x.length ≤ 16777216 then some (.dat (.str (Txt.join x ys))) else none
    | none => none
  | _, _ => none
def mJoin (mo me : ME) : ME := fun η S => (mo η S).bind fun p => (strview p.1).bind fun _ => (me η p.2).bind fun q => (fJoin q.2 p.1 q.1).map fun w => (w, q.2)
theorem tV_join {mo me : ME} {σ : L2.St} {H : Hp} {Q : VK} (h : tV K (mJoin mo me) σ H Q) : tM1 (fun x xs H Q => ∃ (a : Str) (p : Addr), ∃ ys : List Str, x = .str a ∧ xs = [.ref p] ∧ (SqL K H p (ys.map V.str) ∨ SqT K H p (ys.map V.str)) ∧ (ys.map (·.length)).sum + ys.length * a.length ≤ 16777216 ∧ Q (.str (Txt.join a ys)) H) (tV K mo) (tV K me) σ H Q := by
  obtain ⟨β, η, S, w, S', R, e, q⟩ := h
  unfold mJoin at e
  cases e1 : mo η S with
  | none => rw [e1] at e; cases e
  | some p =>
    obtain ⟨w1, S1⟩ := p
    rw [e1] at e
    simp only [Option.bind_some] at e
    cases e0 : strview w1 with
    | none => rw [e0] at e; cases e
    | some x =>
      rw [e0] at e
      simp only [Option.bind_some] at e
      refine ⟨β, η, S, w1, S1, R, e1, fun v1 H1 k1 c1 r1 => ?_⟩
      have ev := (r1.rv R.cl).str e0
      subst ev
      have R1 := R.keep k1 c1
      refine ⟨⟨x, rfl⟩, ?_⟩
      cases e2 : me η S1 with
      | none => rw [e2] at e; cases e
      | some p =>
        obtain ⟨w2, S2⟩ := p
        rw [e2] at e
        simp only [Option.bind_some] at e
        cases e3 : fJoin S2 w1 w2 with
        | none => rw [e3] at e; cases e
        | some w3 =>
          rw [e3] at e
          cases e
          refine ⟨β, η, S1, w2, _, R1, e2, fun v2 H2 k2 c2 r2 => ?_⟩
          have rv2 := r2.rv c1.cl
          unfold fJoin at e3
          rw [e0] at e3
          split at e3
          · rename_i x' ds hx hs
            cases hx
            split at e3
            · rename_i ys hy
              split at e3
              · rename_i hl
                cases e3
                obtain ⟨a, xs, rfl, hq, rr⟩ := rv2.seq c2 hs
                have := strsD_ok rr hy
                subst this
                exact ⟨x, a, ys, rfl, rfl, hq, hl, q _ H2 (k1.trans k2) c2 (.str _)⟩
              · cases e3
            · cases e3
          · cases e3
end
section
variable {X : Cx} {e o : Expr} {es : List Expr} {m : MA} {mo me : ME} {x : Str} {p pos apos : Pos}
theorem de_divmod {e' : Expr} (hg : Gl X "divmod") (hm : X.mg "divmod" = none) (ha : DA X [e, e'] m) (he : starEach [e, e'] X.env = (false, eval e X.env) :: starEach [e'] X.env := by rfl) (hpl : (backTo pos (starEach [e'] X.env)).any (·.1) = false := by rfl) : DE X (.Call (.Name "divmod" p) [e, e'] [] pos) (mCall fDivmod m) :=
  de_callB call_divmod meets_divmod hg hm (by decide +kernel) ha (by decide) (by decide) he hpl
theorem de_gcd {e' : Expr} (hg : Gl X x) (hm : X.mg x = some (.builtin "math.gcd")) (ha : DA X [e, e'] m) (hdb : (x == ("__debug__" : Str)) = false := by decide) (he : starEach [e, e'] X.env = (false, eval e X.env) :: starEach [e'] X.env := by rfl) (hpl : (backTo pos (starEach [e'] X.env)).any (·.1) = false := by rfl) : DE X (.Call (.Name x p) [e, e'] [] pos) (mCall fGcd m) :=
  (pe_callBfun cr_gcd hg hm ha hdb he hpl).imp fun _ _ _ h => tV_call meets_gcd h
theorem de_join (ho : DE X o mo) (he : DE X e me) (hs : starEach [e] X.env = [(false, eval e X.env)] := by rfl) (hb : attributeBase o "join" X.env (eval o X.env) = eval o X.env := by rfl) (hl : (apos.endLine == pos.line) = true := by rfl) : DE X (.Call (.Attribute o "join" apos) [e] [] pos) (mJoin mo me) :=
  (pe_join ho he hs hb hl).imp fun _ _ _ h => tV_join h
end
end BV
set_option Elab.async false
set_option linter.all false
set_option maxRecDepth 100000
namespace BV
open PySem PySem.Spec PyProof.Rows L2

/-! ### list({key: value for ..}): the keys, each once, in order -/
section
variable {K : PySem.W.Frag} {β : Ad} {H H' : Hp}
mutual
theorem Bp.lists (hl : ∀ a xs, H a = some (.lst xs) → H' a = some (.lst xs)) (ht : ∀ a xs, SqT K H a xs → SqT K H' a xs) : ∀ {v : V} {d : D}, Bp K β H v d → Bp K β H' v d
  | _, _, .non => .non
  | _, _, .bl b => .bl b
  | _, _, .int i => .int i
  | _, _, .str x => .str x
  | _, _, .lst n h r => .lst n (hl _ _ h) (BpA.lists hl ht r)
  | _, _, .tup h r => .tup (ht _ _ h) (BpA.lists hl ht r)
theorem BpA.lists (hl : ∀ a xs, H a = some (.lst xs) → H' a = some (.lst xs)) (ht : ∀ a xs, SqT K H a xs → SqT K H' a xs) : ∀ {vs : List V} {ds : List D}, BpA K β H vs ds → BpA K β H' vs ds
  | _, _, .nil => .nil
  | _, _, .cons h r => .cons (Bp.lists hl ht h) (BpA.lists hl ht r)
end
theorem cells_dk {S : Sto} {A : Addr} {kvs kvs' : List (Key × V)} (c : Cells K β S H) (h : H A = some (.dK kvs)) : Cells K β S (upd H A (.dK kvs')) := by
  have hl : ∀ a xs, H a = some (.lst xs) → upd H A (.dK kvs') a = some (.lst xs) := fun a xs e => by
    rw [upd_ne (fun z => by subst z; rw [h] at e; cases e)]; exact e
  have ht : ∀ a xs, SqT K H a xs → SqT K (upd H A (.dK kvs')) a xs := fun a xs e => by
    rcases e with e | e
    · refine .inl ?_
      rcases e with e | ⟨o, e⟩
      · exact .inl (by rw [upd_ne (fun z => by subst z; rw [h] at e; cases e)]; exact e)
      · exact .inr ⟨o, by rw [upd_ne (fun z => by subst z; rw [h] at e; cases e)]; exact e⟩
    · exact .inr e
  refine ⟨⟨c.cl.1, fun a ha => ?_⟩, c.nd, c.len, fun i a ds e1 e2 => ?_⟩
  · obtain ⟨xs, e⟩ := c.cl.2 a ha
    exact ⟨xs, hl _ _ e⟩
  · obtain ⟨xs, h1, h2⟩ := c.at_ i a ds e1 e2
    exact ⟨xs, hl _ _ h1, h2.lists hl ht⟩
def keyD : D → Option Key
  | .int i => some (.inl i)
  | .str x => some (.inr x)
  | _ => none
def dKey : Key → D
  | .inl i => .int i
  | .inr x => .str x
theorem keyD_ok {v : V} {d : D} {k : Key} (r : Bp K β H v d) (e : keyD d = some k) : v = kV k := by
  cases r <;> cases e <;> rfl
theorem keys_bp : ∀ {kvs : List (Key × V)}, BpA K β H (kvs.map fun kv => kV kv.1) ((kvs.map (·.1)).map dKey)
  | [] => .nil
  | (.inl i, _) :: _ => .cons (.int i) keys_bp
  | (.inr x, _) :: _ => .cons (.str x) keys_bp
def putS (ks : List Key) (k : Key) : List Key := if (ks.any fun z => decide (z = k)) = true then ks else ks ++ [k]
theorem putK_keys (kvs : List (Key × V)) (k : Key) (v : V) : (putK kvs k v).map (·.1) = putS (kvs.map (·.1)) k := by
  unfold putK putS
  rw [List.any_map]
  show _ = if (kvs.any fun kv => decide (kv.fst = k)) = true then _ else _
  split
  · rw [List.map_map]
    refine List.map_congr_left fun kv _ => ?_
    show (if kv.fst = k then (kv.fst, v) else kv).fst = kv.fst
    split <;> rfl
  · rw [List.map_append]; rfl
open Classical in
noncomputable def loopD (g : Gd) (all : List D) (b : BE) (mt : MT) (mk mv : ME) : List D → Env → Sto → List Key → Option (List Key × Sto)
  | [], _, S, acc => if gok g all S then some (acc, S) else none
  | d :: ds, η, S, acc => if gok g all S then (b d η).bind fun η1 => (mt η1 S).bind fun p => if p.1 = true then (mk η1 p.2).bind fun q => ((ditem q.1).bind keyD).bind fun k => (mv η1 q.2).bind fun r => if acc.length < sizeLine then loopD g all b mt mk mv ds η r.2 (putS acc k) else none
      else loopD g all b mt mk mv ds η p.2 acc
    else none
noncomputable def mUniq (us : List Nat) (mi : MI) (b : BE) (mt : MT) (mk mv : ME) : ME := fun η S => (mi η S).bind fun p => (loopD p.2.1 p.1 b mt mk mv p.1 (wipeE η us) p.2.2 []).map fun q => (.new (q.1.map dKey), q.2)
theorem loopD_gok {g : Gd} {all : List D} {b : BE} {mt : MT} {mk mv : ME} {ds : List D} {η : Env} {S : Sto} {acc : List Key} {r : List Key × Sto} (e : loopD g all b mt mk mv ds η S acc = some r) : gok g all S := by
  cases ds with
  | nil =>
    unfold loopD at e
    split at e
    · assumption
    · cases e
  | cons d ds =>
    unfold loopD at e
    split at e
    · assumption
    · cases e
theorem tV_uniq {us vs : List Nat} (hvs : ∀ i ∈ vs, i ∈ us) {mi : MI} {b : BE} {mt : MT} {mk mv : ME} {σ : L2.St} {H : Hp} {Q : VK} (h : tV K (mUniq us mi b mt mk mv) σ H Q) : tCB rListD (tCons (tDc (tI K mi) (tG K b vs) (tT K mt) (tV K mk) (tV K mv) us) tNil) σ H Q := by
  obtain ⟨β, η, S, w, S', R, e, q⟩ := h
  unfold mUniq at e
  cases e1 : mi η S with
  | none => rw [e1] at e; cases e
  | some p =>
    obtain ⟨ds, g, S1⟩ := p
    rw [e1] at e
    simp only [Option.bind_some] at e
    cases e0 : loopD g ds b mt mk mv ds (wipeE η us) S1 [] with
    | none => rw [e0] at e; cases e
    | some fin =>
      rw [e0] at e
      cases e
      refine ⟨β, η, S, ds, g, S1, R, e1, fun J H1 k c T Dd hD => ?_⟩
      obtain ⟨G, Y, wk, tn⟩ := T
      have R1 := R.keep k c
      have nD : Dd ∉ β.al := notin_of R1.cl hD
      have nDc : Dd ∉ β.ce := fun z => nD (R1.cl.1 Dd z)
      let Pv : Nat → Hp → Prop := fun i H2 => ∃ S2 acc kvs, Keep β H1 H2 ∧ H2 Dd = some (.dK kvs) ∧ kvs.map (·.1) = acc ∧ Cells K β S2 H2 ∧ loopD g ds b mt mk mv (ds.drop i) (wipeE η us) S2 acc = some fin
      refine ⟨fun i m H2 => i ≤ ds.length ∧ m = ds.length - i ∧ Pv i H2, ⟨_, Nat.zero_le _, rfl, S1, [], [], keep_upd hD, upd_same, rfl, c.upd hD, by rw [List.drop_zero]; exact e0⟩, fun i m H2 w => ?_⟩
      obtain ⟨hi, rfl, S2, acc, kvs, k2, hx, ka, c2, e2⟩ := w
      have hg := loopD_gok e2
      obtain ⟨g2, tn2⟩ := tn β S2 H2 Grown.refl (fun _ h => .inl h) (k2.al R1.cl) c2 hg
      by_cases hin : i = ds.length
      · subst hin
        refine .inl ⟨wk.stops H2 g2, ?_⟩
        rw [List.drop_length] at e2
        unfold loopD at e2
        rw [if_pos hg] at e2
        cases e2
        refine ⟨Dd, kvs, rfl, hx, fun l hl => ?_⟩
        have q2 : Then K β S2 H2 (.new (acc.map dKey)) Q := fun v H3 k3 c3 r3 => q v H3 (k.trans (k2.trans k3)) c3 (r3.back c2.cl (k.trans k2))
        subst ka
        exact q2.new c2 keys_bp hl
      · have hlt : i < ds.length := by omega
        refine .inr ⟨wk.goes i H2 hlt g2, fun H3 => Pv (i + 1) H3, fun H3 p3 => ⟨_, by omega, by omega, rfl, p3⟩, fun x H3 y => ?_⟩
        obtain ⟨same, d, d1, d2⟩ := tn2 i x H3 hlt (wk.yields i H2 x H3 hlt g2 y)
        have hd : ds.drop i = ds[i] :: ds.drop (i + 1) := List.drop_eq_getElem_cons hlt
        rw [List.getElem?_eq_getElem hlt] at d1
        cases d1
        rw [hd] at e2
        unfold loopD at e2
        rw [if_pos hg] at e2
        have k23 : Keep β H2 H3 := fun a o e => .inr (same a o e)
        have k13 : Keep β H1 H3 := k2.trans k23
        have c3 : Cells K β S2 H3 := c2.same same subR (c2.cl.same same) rfl
        have hx3 : H3 Dd = some (.dK kvs) := same _ _ hx
        have st : SR K β (wipeE η us) S2 (wipe σ us) H3 := (R1.wipe us).keep k13 c3
        cases e3 : b ds[i] (wipeE η us) with
        | none => rw [e3] at e2; cases e2
        | some η3 =>
          rw [e3] at e2
          simp only [Option.bind_some] at e2
          refine ⟨β, wipeE η us, S2, _, η3, st, d2, e3, fun σ4 R4 si => ⟨?_, ?_⟩⟩
          · rw [si us hvs, wipe_wipe]
          · cases e4 : mt η3 S2 with
            | none => rw [e4] at e2; cases e2
            | some p =>
              obtain ⟨bo, S4⟩ := p
              rw [e4] at e2
              simp only [Option.bind_some] at e2
              refine ⟨β, η3, S2, bo, S4, R4, e4, fun H4 k4 c4 => ?_⟩
              have k14 : Keep β H1 H4 := k13.trans k4
              have hx4 : H4 Dd = some (.dK kvs) := (k4 _ _ hx3).elim (fun z => absurd z nDc) id
              cases bo with
              | false =>
                dsimp only
                rw [if_neg Bool.false_ne_true]
                exact ⟨S4, acc, kvs, k14, hx4, ka, c4, e2⟩
              | true =>
                dsimp only
                rw [if_pos rfl] at e2 ⊢
                cases e5 : mk η3 S4 with
                | none => rw [e5] at e2; cases e2
                | some p =>
                  obtain ⟨w5, S5⟩ := p
                  rw [e5] at e2
                  simp only [Option.bind_some] at e2
                  cases e6 : ditem w5 with
                  | none => rw [e6] at e2; cases e2
                  | some d6 =>
                    rw [e6] at e2
                    simp only [Option.bind_some] at e2
                    cases e7 : keyD d6 with
                    | none => rw [e7] at e2; cases e2
                    | some ky =>
                      rw [e7] at e2
                      simp only [Option.bind_some] at e2
                      cases e8 : mv η3 S5 with
                      | none => rw [e8] at e2; cases e2
                      | some p =>
                        obtain ⟨w8, S8⟩ := p
                        rw [e8] at e2
                        simp only [Option.bind_some] at e2
                        split at e2
                        · rename_i hz
                          have R44 := R4.keep k4 c4
                          refine ⟨β, η3, S4, w5, S5, R44, e5, fun v5 H5 k5 c5 r5 => ?_⟩
                          have hx5 : H5 Dd = some (.dK kvs) := (k5 _ _ hx4).elim (fun z => absurd z nDc) id
                          have b5 : Bp K β H5 v5 d6 := (r5.rv c4.cl).item e6
                          have ev := keyD_ok b5 e7
                          refine ⟨β, η3, S5, w8, S8, R44.keep k5 c5, e8, fun v8 H8 k8 c8 r8 => ?_⟩
                          have hx8 : H8 Dd = some (.dK kvs) := (k8 _ _ hx5).elim (fun z => absurd z nDc) id
                          have k18 : Keep β H1 H8 := (k14.trans k5).trans k8
                          have hlen : kvs.length < sizeLine := by rw [← ka, List.length_map] at hz; exact hz
                          refine ⟨kvs, ky, ev, hx8, hlen, S8, _, _, ?_, upd_same, by rw [putK_keys, ka], cells_dk c8 hx8, e2⟩
                          exact fun a o e => (k18 a o e).imp id fun z => by rw [upd_ne (ne_of_none e hD)]; exact z
                        · cases e2
end
section
variable {X : Cx} {kx vx tg iter : Expr} {ifs : List Expr} {scope : Scope} {own : List (Str × Nat)} {p pos pos' : Pos} {mi : MI} {b : BE} {vs : List Nat} {mt : MT} {mk mv : ME}
theorem de_uniq (own : List (Str × Nat)) (hgl : Gl X "list") (hml : X.mg "list" = none) (hc : X.calm = true) (hN : X.N.Nodup) (hi : DI X tg iter mi) (ok : BlkOk X.N X.env.scope scope own) (hg : Blk X scope fun Z => DG Z tg b vs) (ht : Blk X scope fun Z => DTs Z ifs mt) (hk : Blk X scope fun Z => DE Z kx mk) (hv : Blk X scope fun Z => DE Z vx mv)
    (hvs : (vs.all fun i => decide (i ∈ own.map (·.2))) = true := by decide) (hs : ∀ x, foldedSetIterable iter X.env x = pure x := by intro _; rfl)
    (hst : starEach [Expr.DictComp kx vx [⟨tg, iter, ifs, 0⟩] scope pos] X.env = (false, eval (Expr.DictComp kx vx [⟨tg, iter, ifs, 0⟩] scope pos) X.env) :: starEach [] X.env := by rfl) (hpl : (backTo pos' (starEach [] X.env)).any (·.1) = false := by rfl) :
    DE X (.Call (.Name "list" p) [.DictComp kx vx [⟨tg, iter, ifs, 0⟩] scope pos] [] pos') (mUniq (own.map (·.2)) mi b mt mk mv) :=
  (pe_callTy (call_list_dK hc) hgl hml (by decide +kernel) (pa_cons (pe_dc hc hN hi ok hg ht hk hv hs) pa_nil) (by decide) (by decide) hst hpl).imp fun σ H Q h => tV_uniq (fun i hi => of_decide_eq_true (List.all_eq_true.mp hvs i hi)) h
end
end BV
set_option Elab.async false
set_option linter.all false
set_option maxRecDepth 100000
namespace BV
open PySem PySem.Spec PyProof.Rows L2

/-! ### the law itself, called where no repr is under way -/
theorem law_callG {P : Program} {w : World} {K : PySem.W.Frag} {mg mb : Str → Option Value} {CX : CXT} {k : Nat} {fa a : Addr} {fd : FuncData} {x : Str} {sp : Sp} {s₁ : Shared} {vs : List Value} {ns : List Int}
    (KX : K.In s₁.heap) (hns : s₁.heap.Ns mainGlobals mg) (hb : s₁.heap.Ns builtinsNs mb) (hbb : ∀ x : Str, x ≠ "__name__" → mb x = bootBuiltins x) (hlim : s₁.heap.NoLimit) (hg : s₁.gens = #[])
    (ha : s₁.heap.get? a = some { cls := .type "list", data := .seq vs.toArray }) (hi : IntsAre vs ns) (hl : ns.length ≤ sizeLine) (hr : Room k callerA)
    (F : ∀ base : Heap, K.In base → base.Ns mainGlobals mg → FnG P w K mg base CX k fa fd [x] sp) (hbind : ∀ (s : Shared) (u : Value), BindsTo s fd ⟨[u], []⟩ [(x, u)])
    (hsp : ∀ H : Hp, Only H → SqL K H a (ns.map V.int) → sp [.ref a] H (fun v _ => v = .bl true) fun _ _ _ => False) (hCX : ∀ (H : Hp) (e : Value) (s' : Shared), CX [] H s₁ (fun _ _ _ => False) e s' → False) :
    codeAny (model P w) callerA (Code.call (.ref fa) ⟨[.ref a], []⟩) (fun r s' => r = .ok (.ret (.bool true)) ∧ OldK s₁.heap s'.heap ∧ s'.os = s₁.os ∧ AllBare s'.gens) s₁ := by
  have rv := vals_ints hi
  have lenV := IntsAre.length hi
  have core : ∀ H : Hp, Only H → SqL K H a (ns.map V.int) → HOk P w H s₁.heap → (∀ b, H b ≠ none → b = a) → (H a ≠ none → K.lookup a = none) →
      codeAny (model P w) callerA (Code.call (.ref fa) ⟨[.ref a], []⟩) (fun r s' => r = .ok (.ret (.bool true)) ∧ OldK s₁.heap s'.heap ∧ s'.os = s₁.os ∧ AllBare s'.gens) s₁ := by
    intro H hO hS hok hA hK
    have noA : ∀ {b : Addr} {o : Obj} {es : Array DictEntry} {ep : Nat}, s₁.heap.get? b = some o → o.data = .dict es ep → H b = none := fun {b o es ep} e d => by
      cases q : H b with
      | none => rfl
      | some u =>
        have e' := hA b (by rw [q]; exact fun z => by cases z)
        subst e'
        rw [ha] at e
        cases e
        cases d
    have nsK : ∀ {b : Addr} {m : Str → Option Value}, s₁.heap.Ns b m → (hidT s₁.heap H).Ns b m := fun z => by
      obtain ⟨o, es, ep, e, d, r⟩ := z
      exact ⟨o, es, ep, hidT_get e (noA e d), d, r⟩
    have hKb : K.In (hidT s₁.heap H) := fun b o e => hidT_get (KX b o e) (by
      cases q : H b with
      | none => rfl
      | some u =>
        have e' := hA b (by rw [q]; exact fun z => by cases z)
        subst e'
        rw [hK (by rw [q]; exact fun z => by cases z)] at e
        cases e)
    have hM : Mod K mg (hidT s₁.heap H) := ⟨hKb, nsK hns, ⟨mb, nsK hb, hbb⟩, by
      obtain ⟨mc, h1, h2⟩ := hlim
      exact ⟨mc, nsK h1, h2⟩⟩
    have e0 : Env0 P w K mg (hidT s₁.heap H) callerA [] s₁ H := ⟨rfl, hM, fun b o e => of_hidT e, Nat.le_of_eq (hidT_size s₁.heap H), trivial, fun b hb => absurd hb List.not_mem_nil, hok, AllBare.of_eq hg⟩
    refine codeAny_mono ((F _ hKb (nsK hns)).run callerA [] s₁ H ⟨[.ref a], []⟩ [.ref a] [.ref a] (fun v _ => v = .bl true) (fun _ _ _ => False) rfl hr e0 (hbind s₁ (.ref a)) (.cons rfl .nil) (hsp H hO hS)) fun r s' h => ?_
    rcases r with e | fl
    · exact (hCX H e s' h).elim
    · cases fl with
      | ret u =>
        obtain ⟨v, H', os, bare, un, hok', r', q⟩ := h
        subst q
        replace r' : u = .bool true := r'
        subst r'
        refine ⟨rfl, OldK.of_keep fun b o e => ?_, os, bare⟩
        cases q : H b with
        | none => exact un.keep b o e q (fun z => absurd z List.not_mem_nil) (fun z => absurd z List.not_mem_nil)
        | some u =>
          rcases hO b with z | ⟨ob, xs, z⟩
          · rw [q] at z; cases z
          · have z2 := un.frzs b ob (.lst xs) z
            obtain ⟨e1, _⟩ := hok b _ z
            obtain ⟨e2, _⟩ := hok' b _ z2
            rw [e] at e1
            cases e1
            exact e2
      | _ => exact h.elim
  cases hk : K.lookup a with
  | none =>
    let H0 : Hp := fun b => if b = a then some (.frz { cls := .type "list", data := .seq vs.toArray } (.lst (ns.map V.int))) else none
    refine core H0 (fun b => ?_) (.inl (.inr ⟨_, if_pos rfl⟩)) (fun b u z => ?_) (fun b z => ?_) fun _ => hk
    · by_cases hb : b = a
      · exact .inr ⟨_, _, if_pos hb⟩
      · exact .inl (if_neg hb)
    · by_cases hb : b = a
      · subst hb
        have z' : some _ = some u := (if_pos rfl).symm.trans z
        cases z'
        exact ⟨ha, by rw [List.length_map]; exact hl, vs, 0, rv, ha⟩
      · have z' : none = some u := (if_neg hb).symm.trans z
        cases z'
    · by_cases hb : b = a
      · exact hb
      · exact absurd (if_neg hb) z
  | some o =>
    have e := KX a o hk
    rw [ha] at e
    cases e
    exact core (fun _ => none) (fun _ => .inl rfl) (.inr ⟨_, vs.toArray, 0, hk, rfl, rfl, rfl, by rw [List.size_toArray, lenV]; exact hl, rv⟩) (fun b u z => by cases z) (fun b z => absurd rfl z) fun z => absurd rfl z
open PySem.W in
theorem walk_ofG {l : PySem.W.OpenLaw} {n k : Nat} {q : Program} {loose : List Str} {XP : (Str → Option Value) → Heap → Prop} {YP : World → Heap → Prop} {d : DefRec} {K : Params → PySem.W.Frag} {CX : World → CXT} {sp : World → Sp} {x : Str}
    (hn : l.most = some n) (hn2 : n ≤ sizeLine) (hdf : d.params.defaults = []) (hr : Room k callerA) (hY : ∀ (w : World) (h : Heap), YP w h → (K w.params).In h)
    (F : ∀ (w : World) (mg : Str → Option Value) (fa : Addr) (h : Heap), (K w.params).In h → h.Ns mainGlobals mg → mg d.name = some (.ref fa) → ∃ fd, (∀ (s : Shared) (u : Value), BindsTo s fd ⟨[u], []⟩ [(x, u)]) ∧ ∀ base : Heap, (K w.params).In base → base.Ns mainGlobals mg → FnG l.prog w (K w.params) mg base (CX w) k fa fd [x] (sp w))
    (hsp : ∀ (w : World) (H : Hp) (a : Addr) (ns : List Int), ns.length ≤ n → Only H → SqL (K w.params) H a (ns.map V.int) → sp w [.ref a] H (fun v _ => v = .bl true) fun _ _ _ => False) (hCX : ∀ (w : World) (H : Hp) (s : Shared) (e : Value) (s' : Shared), CX w [] H s (fun _ _ _ => False) e s' → False) :
    PySem.W.WalkO q loose XP YP l.row.toRowW d [] fun f vs => call f vs :=
  Att.attach_call hn hdf fun w s₀ s₁ mg mb fa o pm cd doc a vs ns G Y ho hd hcd hmg hobj hints hlen hg => by
    have KX := hY w s₁.heap Y
    obtain ⟨fd, hb, hF⟩ := F w mg fa s₁.heap KX G.T.g hmg
    exact law_callG KX G.T.g G.T.b G.T.builtins G.T.nolimit hg hobj hints (Nat.le_trans hlen hn2) hr hF hb (fun H hO hS => hsp w H a ns hlen hO hS) fun H e s' => hCX w H s₁ e s'
theorem call_reprD {X : Cx} (hu : X.A.units + 65 < cLine) (hg : X.A.guards = some []) : CallR X (.builtin "repr") (fun xs H Q => ∃ a d, xs = [.ref a] ∧ Dp X.K H (.ref a) d ∧ d.showable = true ∧ d.hasDict = false ∧ d.depth < 64 ∧ d.shown.length ≤ sizeLine ∧ Q (.str d.shown) H) := by
  intro pins s σ H xs us Q I r h
  obtain ⟨a, d, rfl, hd, h1, h2, h3, h4, q⟩ := h
  match us, r with
  | [u], .cons ru .nil =>
    have ru' := ru
    cases ru
    obtain ⟨as, rd⟩ := Dp.reads I d (.ref a) (.ref a) hd ru'
    refine repr_of_reads' rd h1 (fun z => by rw [h2] at z; cases z) hg (by omega) (fun _ _ e => e) (fun h' u tk k => ?_) h4
    exact ⟨.str d.shown, H, I.turnedL (ch := []) (fun b o _ e => k b o e) (fun b hb => by cases hb), ⟨u, rfl⟩, q⟩
end BV
set_option Elab.async false
set_option linter.all false
set_option maxRecDepth 100000
namespace BV
open PySem PySem.Spec PyProof.Rows L2

/-! ### repr of lists and tuples -/
def reprOk (d : D) : Bool := (match d with | .list _ => true | .tuple _ => true | _ => false) && d.showable && !d.hasDict && decide (d.depth < 64) && decide (d.shown.length ≤ sizeLine)
def fRepr : Sto → List W → Option W := fun S ws => match ws with
  | [w] => (dview S w).bind fun d => if reprOk d = true then some (.dat (.str d.shown)) else none
  | _ => none
section
variable {K : PySem.W.Frag}
theorem meets_repr : MeetsC K (fun xs H Q => ∃ a d, xs = [.ref a] ∧ Dp K H (.ref a) d ∧ d.showable = true ∧ d.hasDict = false ∧ d.depth < 64 ∧ d.shown.length ≤ sizeLine ∧ Q (.str d.shown) H) fRepr := by
  intro β S H vs ws w Q c r e q
  unfold fRepr at e
  split at e
  · rename_i w1
    obtain ⟨v, rfl, rv⟩ := r.one
    cases h : dview S w1 with
    | none => rw [h] at e; cases e
    | some d =>
      rw [h] at e
      simp only [Option.bind_some] at e
      split at e
      · rename_i ok
        cases e
        have dp := rv.dp c h
        unfold reprOk at ok
        simp only [Bool.and_eq_true, decide_eq_true_eq, Bool.not_eq_true'] at ok
        obtain ⟨⟨⟨⟨o1, o2⟩, o3⟩, o4⟩, o5⟩ := ok
        have hv : ∃ a, v = .ref a := by
          cases dp <;> first | exact ⟨_, rfl⟩ | cases o1
        obtain ⟨a, rfl⟩ := hv
        exact ⟨a, d, rfl, dp, o2, o3, o4, o5, q.str c⟩
      · cases e
  · cases e
end
section
variable {X : Cx} {e : Expr} {m : MA} {p pos : Pos}
theorem de_repr (hu : X.A.units + 65 < cLine) (hG : X.A.guards = some []) (hg : Gl X "repr") (hm : X.mg "repr" = none) (ha : DA X [e] m) (he : starEach [e] X.env = (false, eval e X.env) :: starEach [] X.env := by rfl) : DE X (.Call (.Name "repr" p) [e] [] pos) (mCall fRepr m) :=
  de_callB (call_reprD hu hG) meets_repr hg hm (by decide +kernel) ha (by decide) (by decide) he (by rfl)
end
end BV
set_option Elab.async false
set_option linter.all false
set_option maxRecDepth 100000
namespace BV
open PySem PySem.Spec PyProof.Rows L2

/-! ### min, max of a list or tuple of alike data -/
def alikeB (ds : List D) : Bool := (ds.all fun x => ds.all fun y => W.alike x y) && ds.all fun x => match x with | .none => false | _ => true
theorem alikeB_ok {ds : List D} (h : alikeB ds = true) : W.AlikeAll ds := by
  unfold alikeB at h
  simp only [Bool.and_eq_true, List.all_eq_true] at h
  refine ⟨fun x hx y hy => h.1 x hx y hy, fun x hx e => ?_⟩
  have := h.2 x hx
  rw [e] at this
  cases this
def rBest (K : PySem.W.Frag) (g : D → List D → D) : List V → Hp → VK → Prop := fun vs H Q => ∃ (a : Addr) (xs : List V) (d : D) (ds : List D), vs = [.ref a] ∧ (SqL K H a xs ∨ SqT K H a xs) ∧ DpAll K H xs (d :: ds) ∧ W.AlikeAll (d :: ds) ∧ SeqAt.shaped (.list (d :: ds)) = true ∧
  ∀ (i : Nat) (v : V), xs[i]? = some v → (d :: ds)[i]? = some (g d ds) → Q v H
theorem vals_get' {xs : List V} {us : List Value} {i : Nat} {u : Value} (r : Vals xs us) (h : us[i]? = some u) : ∃ x, xs[i]? = some x ∧ RelV x u := by
  cases e : xs[i]? with
  | none => rw [Vals.none_of r e] at h; cases h
  | some x =>
    obtain ⟨u', e1, e2⟩ := Vals.get r e
    rw [h] at e1
    cases e1
    exact ⟨x, rfl, e2⟩
theorem data_at {h : Heap} {its : List Value} {ds : List D} {as bs : List Addr} {i : Nat} {u : Value} {d : D} (hr : ReadsAll h its ds as) (hc : PyData.canLayAll0 ds = true) (hi : its[i]? = some u) (hd : Reads h u d bs) (hm : d ∈ ds) : ds[i]? = some d := by
  have e := SeqAt.readsAll_map ds its as hc hr
  have hl : ∀ (l : List D), PyData.canLayAll0 l = true → d ∈ l → d.canLay0 = true := fun l => by
    induction l with
    | nil => intro _ z; cases z
    | cons x l ih =>
      intro h1 h2
      have h1 : (x.canLay0 && PyData.canLayAll0 l) = true := h1
      rw [Bool.and_eq_true] at h1
      rcases List.mem_cons.mp h2 with rfl | h2
      · exact h1.1
      · exact ih h1.2 h2
  have hcd := hl ds hc hm
  rw [← e, List.getElem?_map, hi]
  show some (SeqAt.readOf h u) = some d
  rw [SeqAt.readOf_eq hcd hd]
theorem minD_mem (d : D) (ds : List D) : W.minD d ds ∈ d :: ds := by
  have key : ∀ (l : List D) (a : D), l.foldl (fun a y => if W.dataLt y a = true then y else a) a ∈ a :: l := fun l => by
    induction l with
    | nil => intro a; exact List.mem_singleton.mpr rfl
    | cons x l ih =>
      intro a
      rw [List.foldl_cons]
      by_cases h : W.dataLt x a = true
      · rw [if_pos h]
        exact List.mem_cons_of_mem _ (ih x)
      · rw [if_neg h]
        rcases List.mem_cons.mp (ih a) with e | e
        · rw [e]; exact List.mem_cons_self
        · exact List.mem_cons_of_mem _ (List.mem_cons_of_mem _ e)
  exact key ds d
theorem maxD_mem (d : D) (ds : List D) : W.maxD d ds ∈ d :: ds := by
  have key : ∀ (l : List D) (a : D), l.foldl (fun a y => if W.dataLt a y = true then y else a) a ∈ a :: l := fun l => by
    induction l with
    | nil => intro a; exact List.mem_singleton.mpr rfl
    | cons x l ih =>
      intro a
      rw [List.foldl_cons]
      by_cases h : W.dataLt a x = true
      · rw [if_pos h]
        exact List.mem_cons_of_mem _ (ih x)
      · rw [if_neg h]
        rcases List.mem_cons.mp (ih a) with e | e
        · rw [e]; exact List.mem_cons_self
        · exact List.mem_cons_of_mem _ (List.mem_cons_of_mem _ e)
  exact key ds d
theorem shaped_parts {ds : List D} (h : SeqAt.shaped (.list ds) = true) : PyData.canLayAll0 ds = true ∧ PyData.depthAll ds < 64 := by
  unfold SeqAt.shaped at h
  rw [Bool.and_eq_true, decide_eq_true_eq] at h
  refine ⟨h.1, ?_⟩
  have h2 := h.2
  unfold PyData.depth at h2
  omega
section
variable {X : Cx}
theorem call_bestMin (hc : X.calm = true) (hu : X.A.units + 65 < cLine) : CallR X (.builtin "min") (rBest X.K W.minD) := by
  intro pins s σ H vs us Q I r h
  obtain ⟨a, xs, d, ds, rfl, hs, hd, ha, hsh, q⟩ := h
  rw [Vals.ref1 r]
  obtain ⟨hc1, hc2⟩ := shaped_parts hsh
  have hroom : X.A.units + 1 + PyData.depthAll (d :: ds) < cLine := by omega
  rcases hs with hs | hs
  · obtain ⟨its, rv, hl, _⟩ := I.list hs
    obtain ⟨as, hr⟩ := Dp.readsAll I (d :: ds) xs its hd rv
    refine W.min_list_data (I.ok.hd hc) hl.isList hr ha hroom fun i v h' tk bs hv hrd hk => ?_
    have hv : its[i]? = some v := by simpa using hv
    obtain ⟨x, hx, rx⟩ := vals_get' rv hv
    have I' := I.kept (t' := tk) hk
    obtain ⟨as', hr'⟩ := Dp.readsAll I' (d :: ds) xs its hd rv
    exact ⟨x, H, I', rx, q i x hx (data_at hr' hc1 hv hrd (minD_mem d ds))⟩
  · obtain ⟨its, rv, hl, _⟩ := I.tuple hs
    obtain ⟨as, hr⟩ := Dp.readsAll I (d :: ds) xs its hd rv
    refine W.min_tuple_data (I.ok.hd hc) hl hr ha hroom fun i v h' tk bs hv hrd hk => ?_
    have hv : its[i]? = some v := by simpa using hv
    obtain ⟨x, hx, rx⟩ := vals_get' rv hv
    have I' := I.kept (t' := tk) hk
    obtain ⟨as', hr'⟩ := Dp.readsAll I' (d :: ds) xs its hd rv
    exact ⟨x, H, I', rx, q i x hx (data_at hr' hc1 hv hrd (minD_mem d ds))⟩
theorem call_bestMax (hc : X.calm = true) (hu : X.A.units + 65 < cLine) : CallR X (.builtin "max") (rBest X.K W.maxD) := by
  intro pins s σ H vs us Q I r h
  obtain ⟨a, xs, d, ds, rfl, hs, hd, ha, hsh, q⟩ := h
  rw [Vals.ref1 r]
  obtain ⟨hc1, hc2⟩ := shaped_parts hsh
  have hroom : X.A.units + 1 + PyData.depthAll (d :: ds) < cLine := by omega
  rcases hs with hs | hs
  · obtain ⟨its, rv, hl, _⟩ := I.list hs
    obtain ⟨as, hr⟩ := Dp.readsAll I (d :: ds) xs its hd rv
    refine W.max_list_data (I.ok.hd hc) hl.isList hr ha hroom fun i v h' tk bs hv hrd hk => ?_
    have hv : its[i]? = some v := by simpa using hv
    obtain ⟨x, hx, rx⟩ := vals_get' rv hv
    have I' := I.kept (t' := tk) hk
    obtain ⟨as', hr'⟩ := Dp.readsAll I' (d :: ds) xs its hd rv
    exact ⟨x, H, I', rx, q i x hx (data_at hr' hc1 hv hrd (maxD_mem d ds))⟩
  · obtain ⟨its, rv, hl, _⟩ := I.tuple hs
    obtain ⟨as, hr⟩ := Dp.readsAll I (d :: ds) xs its hd rv
    refine W.max_tuple_data (I.ok.hd hc) hl hr ha hroom fun i v h' tk bs hv hrd hk => ?_
    have hv : its[i]? = some v := by simpa using hv
    obtain ⟨x, hx, rx⟩ := vals_get' rv hv
    have I' := I.kept (t' := tk) hk
    obtain ⟨as', hr'⟩ := Dp.readsAll I' (d :: ds) xs its hd rv
    exact ⟨x, H, I', rx, q i x hx (data_at hr' hc1 hv hrd (maxD_mem d ds))⟩
end
def fBest (g : D → List D → D) : Sto → List W → Option W := fun S ws => match ws with
  | [w] => (seqview S w).bind fun ds => match ds with
    | [] => none
    | x :: xs => if (alikeB (x :: xs) && SeqAt.shaped (.list (x :: xs))) = true then some (.dat (g x xs)) else none
  | _ => none
section
variable {K : PySem.W.Frag}
theorem meets_best {g : D → List D → D} : MeetsC K (rBest K g) (fBest g) := by
  intro β S H vs ws w Q c r e q
  unfold fBest at e
  split at e
  · rename_i w1
    obtain ⟨v, rfl, rv⟩ := r.one
    cases h : seqview S w1 with
    | none => rw [h] at e; cases e
    | some ds =>
      rw [h] at e
      simp only [Option.bind_some] at e
      split at e
      · cases e
      · rename_i x xs
        split at e
        · rename_i ok
          cases e
          rw [Bool.and_eq_true] at ok
          obtain ⟨a, ys, rfl, hs, rr⟩ := rv.seq c h
          refine ⟨a, ys, x, xs, rfl, hs, rr.dp, alikeB_ok ok.1, ok.2, fun i v hv hd => ?_⟩
          obtain ⟨d', e1, e2⟩ := rr.get hv
          rw [hd] at e1
          cases e1
          exact q _ H Keep.refl c e2
        · cases e
  · cases e
end
section
variable {X : Cx} {e : Expr} {m : MA} {p pos : Pos}
theorem de_min1 (hu : X.A.units + 65 < cLine) (hc : X.calm = true) (hg : Gl X "min") (hm : X.mg "min" = none) (ha : DA X [e] m) (he : starEach [e] X.env = (false, eval e X.env) :: starEach [] X.env := by rfl) : DE X (.Call (.Name "min" p) [e] [] pos) (mCall (fBest W.minD) m) :=
  de_callB (call_bestMin hc hu) meets_best hg hm (by decide +kernel) ha (by decide) (by decide) he (by rfl)
theorem de_max1 (hu : X.A.units + 65 < cLine) (hc : X.calm = true) (hg : Gl X "max") (hm : X.mg "max" = none) (ha : DA X [e] m) (he : starEach [e] X.env = (false, eval e X.env) :: starEach [] X.env := by rfl) : DE X (.Call (.Name "max" p) [e] [] pos) (mCall (fBest W.maxD) m) :=
  de_callB (call_bestMax hc hu) meets_best hg hm (by decide +kernel) ha (by decide) (by decide) he (by rfl)
end
end BV
set_option Elab.async false
set_option linter.all false
set_option maxRecDepth 100000
namespace BV
open PySem PySem.Spec PyProof.Rows L2

/-! ### methods of a cell, with arguments: xs.pop(i), xs.insert(i, x) -/
def mCM (g : List D → List W → Option (D × List D)) (mo : ME) (ma : MA) : ME := fun η S => (mo η S).bind fun p => (ma η p.2).bind fun q => match p.1 with
  | .hd n => (q.2[n]?).bind fun ds => (g ds q.1).map fun r => (.dat r.1, q.2.set n r.2)
  | _ => none
section
variable {K : PySem.W.Frag}
def MeetsM (K : PySem.W.Frag) (r : V → List V → Hp → VK → Prop) (g : List D → List W → Option (D × List D)) : Prop :=
  ∀ (β : Ad) (S : Sto) (H : Hp) (a : Addr) (xs : List V) (ds : List D) (vs : List V) (ws : List W) (d : D) (es : List D) (Q : VK), Cells K β S H → H a = some (.lst xs) → BpA K β H xs ds → RvA K β H vs ws → g ds ws = some (d, es) →
    (∀ v ys, Bp K β H v d → BpA K β H ys es → Q v (upd H a (.lst ys))) → r (.ref a) vs H Q
theorem tV_cm {r : V → List V → Hp → VK → Prop} {g : List D → List W → Option (D × List D)} {mo : ME} {ma : MA} {σ : L2.St} {H : Hp} {Q : VK} (hr : MeetsM K r g) (h : tV K (mCM g mo ma) σ H Q) : tBM K "list" r (tV K mo) (tVs K ma) σ H Q := by
  obtain ⟨β, η, S, w, S', R, e, q⟩ := h
  unfold mCM at e
  cases e1 : mo η S with
  | none => rw [e1] at e; cases e
  | some p =>
    obtain ⟨w1, S1⟩ := p
    rw [e1] at e
    simp only [Option.bind_some] at e
    refine ⟨β, η, S, w1, S1, R, e1, fun v1 H1 k1 c1 r1 => ?_⟩
    have R1 := R.keep k1 c1
    cases e2 : ma η S1 with
    | none => rw [e2] at e; cases e
    | some p =>
      obtain ⟨ws, S2⟩ := p
      rw [e2] at e
      simp only [Option.bind_some] at e
      cases w1 with
      | dat _ => cases e
      | new _ => cases e
      | frz _ => cases e
      | hd n =>
        dsimp only at e
        cases es : S2[n]? with
        | none => rw [es] at e; cases e
        | some ds =>
          rw [es] at e
          simp only [Option.bind_some] at e
          cases eg : g ds ws with
          | none => rw [eg] at e; cases e
          | some rr =>
            obtain ⟨d, ds'⟩ := rr
            rw [eg] at e
            cases e
            obtain ⟨a, ea, rfl⟩ := id r1
            have hlt : n < S1.length := by rw [← c1.len]; exact (List.getElem?_eq_some_iff.mp ea).1
            refine ⟨Rv.tyL (w := .hd n) (ds := S1[n]) c1 (show Rv K β H1 (.ref a) (.hd n) from r1) (List.getElem?_eq_getElem hlt), ?_⟩
            refine ⟨β, η, S1, ws, S2, R1, e2, fun vs H2 k2 c2 r2 => ?_⟩
            obtain ⟨xs, hx, rx⟩ := c2.at_ n a ds ea es
            refine hr β S2 H2 a xs ds vs ws d ds' _ c2 hx rx (r2.rva c1.cl) eg fun v ys rv ry => ?_
            obtain ⟨c3, k3⟩ := cells_set c2 ea ry
            exact q _ _ ((k1.trans k2).trans k3) c3 (rv.keep c2.cl k3 subR)
def gPop : List D → List W → Option (D × List D) := fun ds ws => match ws with
  | [w] => (iview w).bind fun i => if -4611686018427387904 ≤ i ∧ i < 4611686018427387904 then (ixN ds.length i).bind fun k => (ds[k]?).map fun d => (d, ds.eraseIdx k) else none
  | _ => none
theorem BpA.erase {β : Ad} {H : Hp} : ∀ {vs : List V} {ds : List D} (k : Nat), BpA K β H vs ds → BpA K β H (vs.eraseIdx k) (ds.eraseIdx k)
  | _, _, _, .nil => by simpa using .nil
  | _, _, 0, .cons h r => by simpa using r
  | _, _, k + 1, .cons h r => by simpa using .cons h (BpA.erase k r)
theorem meets_popAt : MeetsM K rPopAt gPop := by
  intro β S H a xs ds vs ws d es Q c hx rx rv e q
  unfold gPop at e
  split at e
  · rename_i w
    obtain ⟨v, rfl, r1⟩ := rv.one
    cases ei : iview w with
    | none => rw [ei] at e; cases e
    | some i =>
      rw [ei] at e
      simp only [Option.bind_some] at e
      split at e
      · rename_i hb
        cases ek : ixN ds.length i with
        | none => rw [ek] at e; cases e
        | some k =>
          rw [ek] at e
          simp only [Option.bind_some] at e
          cases ed : ds[k]? with
          | none => rw [ed] at e; cases e
          | some d' =>
            rw [ed] at e
            cases e
            obtain ⟨y, hy, ry⟩ := rx.get' ed
            have ev := r1.int ei
            subst ev
            have := (ixN_seq ek).1
            exact ⟨a, xs, i, k, y, rfl, rfl, hx, by omega, by omega, by rw [rx.len]; exact this, hy, q y _ ry (rx.erase k)⟩
      · cases e
  · cases e
def gIns : List D → List W → Option (D × List D) := fun ds ws => match ws with
  | [w, u] => (iview w).bind fun i => (ditem u).bind fun d => if 0 ≤ i ∧ i < 4611686018427387904 ∧ ds.length < sizeLine then some (.none, ds.take i.toNat ++ [d] ++ ds.drop i.toNat) else none
  | _ => none
theorem meets_insAt : MeetsM K (fun x vs H Q => ∃ (l : Addr) (xs : List V) (i : Int) (y : V), x = .ref l ∧ vs = [.int i, y] ∧ H l = some (.lst xs) ∧ xs.length < sizeLine ∧ 0 ≤ i ∧ i < 2 ^ 63 ∧ Q .non (upd H l (.lst (xs.take i.toNat ++ [y] ++ xs.drop i.toNat)))) gIns := by
  intro β S H a xs ds vs ws d es Q c hx rx rv e q
  unfold gIns at e
  split at e
  · rename_i w u
    obtain ⟨v, z, rfl, r1, r2⟩ := rv.two
    cases ei : iview w with
    | none => rw [ei] at e; cases e
    | some i =>
      rw [ei] at e
      simp only [Option.bind_some] at e
      cases ed : ditem u with
      | none => rw [ed] at e; cases e
      | some d' =>
        rw [ed] at e
        simp only [Option.bind_some] at e
        split at e
        · rename_i hb
          cases e
          have ev := r1.int ei
          subst ev
          exact ⟨a, xs, i, z, rfl, rfl, hx, by rw [rx.len]; exact hb.2.2, hb.1, by omega, q .non _ .non (((rx.take _).append (.cons (r2.item ed) .nil)).append (rx.drop _))⟩
        · cases e
  · cases e
end
section
variable {X : Cx} {o e e' : Expr} {mo me me' : ME} {pos apos : Pos}
theorem de_popAt (ho : DE X o mo) (he : DE X e me) (hbase : attributeBase o "pop" X.env (eval o X.env) = eval o X.env := by rfl)
    (hfew : ((backTo pos (starEach [e] X.env)).all (fun x => !x.1) && (backToKw pos (keywordEach [] X.env)).all (fun x => x.1.isSome)
      && decide ([e].length + ([] : List Keyword).length + (if ([] : List Keyword).isEmpty then 0 else 1) < 30)) = true := by rfl)
    (hline : (apos.endLine == pos.line) = true := by rfl) (hs : starEach [e] X.env = (false, eval e X.env) :: starEach [] X.env := by rfl) : DE X (.Call (.Attribute o "pop" apos) [e] [] pos) (mCM gPop mo (mCons me mNil)) :=
  (pe_bm PySem.F.plainAttrs_list PySem.F.slot_list_pop PySem.F.type_list_pop mt_popAt ho (da_cons he da_nil hs) hbase hfew hline hs (by rfl)).imp fun σ H Q h => tV_cm meets_popAt h
theorem de_insert (ho : DE X o mo) (ha : DA X [e, e'] m2) (hbase : attributeBase o "insert" X.env (eval o X.env) = eval o X.env := by rfl)
    (hfew : ((backTo pos (starEach [e, e'] X.env)).all (fun x => !x.1) && (backToKw pos (keywordEach [] X.env)).all (fun x => x.1.isSome)
      && decide ([e, e'].length + ([] : List Keyword).length + (if ([] : List Keyword).isEmpty then 0 else 1) < 30)) = true := by rfl)
    (hline : (apos.endLine == pos.line) = true := by rfl) (hs : starEach [e, e'] X.env = (false, eval e X.env) :: starEach [e'] X.env := by rfl) (hplain : (backTo pos (starEach [e'] X.env)).any (·.1) = false := by rfl) : DE X (.Call (.Attribute o "insert" apos) [e, e'] [] pos) (mCM gIns mo m2) :=
  (pe_bm PySem.F.plainAttrs_list PySem.F.slot_list_insert PySem.F.type_list_insert mt_insert ho ha hbase hfew hline hs hplain).imp fun σ H Q h => tV_cm meets_insAt h
end
end BV
set_option Elab.async false
set_option linter.all false
set_option maxRecDepth 100000
namespace BV
open PySem PySem.Spec PyProof.Rows L2

/-! ### how many different numbers: len(set(xs)) -/
def diffI (ns : List Int) : Nat := (firstMet (fun i => ns.getD i 0) ns.length).length
def tLsI (K : PySem.W.Frag) (ta : TE) : TE := fun σ H Q => ta σ H fun x H1 => ∃ (l : Addr) (ns : List Int), x = .ref l ∧ SqL K H1 l (ns.map V.int) ∧ ns.length < 4000 ∧ Q (.int (diffI ns)) H1
theorem pe_lsI {X : Cx} {a : Expr} {ta : TE} {p p2 q pos : Pos} (hc : X.calm = true) (hg : Gl X "len") (hm : X.mg "len" = none) (hg2 : Gl X "set") (hm2 : X.mg "set" = none) (ha : PE X a ta)
    (na : starEach [a] X.env = (false, eval a X.env) :: starEach [] X.env := by rfl) : PE X (.Call (.Name "len" p) [.Call (.Name "set" p2) [a] [] q] [] pos) (tLsI X.K ta) := by
  refine ⟨fun pins z σ H Q I h => Call_ (ld_blt I hg hm PySem.boot_len ?_)⟩
  refine PyProof.Rows.callWith_builtin1 (PyProof.Rows.args_cons (Call_ (ld_blt I hg2 hm2 PyProof.Rows.boot_set ?_)) rfl) rfl rfl
  refine PyProof.Rows.callWith_type1 (PyProof.Rows.args_cons (thn (ha.run pins z σ H _ I h) fun v z1 ⟨x, H1, I1, r1, l, ns, ex, hq, h1, q1⟩ => PyProof.Rows.args_nil ?_) na) na rfl
  subst ex
  cases r1
  obtain ⟨its, r, pl, _⟩ := I1.list hq
  have hl : its.toArray.size = ns.length := by rw [List.size_toArray, ← r.length, List.length_map]
  refine PySem.call_set_list (I1.ok.hd hc) pl.isList (ns := ns) (by simpa using r.ints) (by rw [hl]; unfold scanBound; omega) fun h' tk hS hk => PyProof.Rows.args_nil ?_
  rw [hl] at hS
  obtain ⟨o, es, ep, t, ho, hex, hd, _, _, _, hf, hn⟩ := hS
  have I2 : Inv X pins σ H1 { z1 with heap := h', toks := tk } := I1.kept fun b ob e => hk b ob (Heap.lt_size e) e
  have hle : diffI ns ≤ ns.length := firstMet_length_le _ _
  have hn' : _ = diffI ns := hn
  exact call_len_set ho hex hd hf (by rw [hn'] <;> omega) ⟨.int (diffI ns), H1, I2.tok _, ⟨_, by rw [hn']⟩, q1⟩
def mLsI (m : ME) : ME := fun η S => (m η S).bind fun p => (lview p.2 p.1).bind fun ds => (intsD ds).bind fun ns => if ns.length < 4000 then some (.dat (.int (diffI ns)), p.2) else none
theorem tV_lsI {K : PySem.W.Frag} {m : ME} {σ : L2.St} {H : Hp} {Q : VK} (h : tV K (mLsI m) σ H Q) : tLsI K (tV K m) σ H Q := by
  obtain ⟨β, η, S, w, S', R, e, q⟩ := h
  unfold mLsI at e
  cases e1 : m η S with
  | none => rw [e1] at e; cases e
  | some p =>
    obtain ⟨w1, S1⟩ := p
    rw [e1] at e
    simp only [Option.bind_some] at e
    refine ⟨β, η, S, w1, S1, R, e1, fun v1 H1 k1 c1 r1 => ?_⟩
    cases e2 : lview S1 w1 with
    | none => rw [e2] at e; cases e
    | some ds =>
      rw [e2] at e
      simp only [Option.bind_some] at e
      cases e3 : intsD ds with
      | none => rw [e3] at e; cases e
      | some ns =>
        rw [e3] at e
        simp only [Option.bind_some] at e
        split at e
        · rename_i hz
          cases e
          obtain ⟨a, xs, rfl, hs, rr⟩ := (r1.rv R.cl).list c1 e2
          have := intsD_ok rr e3
          subst this
          exact ⟨a, ns, rfl, SqL.of hs, hz, q _ H1 k1 c1 (.int _)⟩
        · cases e
theorem de_lsI {X : Cx} {a : Expr} {m : ME} {p p2 q pos : Pos} (hc : X.calm = true) (hg : Gl X "len") (hm : X.mg "len" = none) (hg2 : Gl X "set") (hm2 : X.mg "set" = none) (ha : DE X a m)
    (na : starEach [a] X.env = (false, eval a X.env) :: starEach [] X.env := by rfl) : DE X (.Call (.Name "len" p) [.Call (.Name "set" p2) [a] [] q] [] pos) (mLsI m) :=
  (pe_lsI hc hg hm hg2 hm2 ha na).imp fun _ _ _ h => tV_lsI h
end BV
set_option Elab.async false
set_option linter.all false
set_option maxRecDepth 100000
namespace BV
open PySem PySem.Spec PyProof.Rows L2

/-! ### xs = [f(..), ..]; if test: return False; xs[0].append(text): the first list, just made, is changed, and xs forgotten -/
def FlatS (S : Sto) : Prop := ∀ ds ∈ S, ds.all isFlat = true
open Classical in
noncomputable def mTri (i : Nat) (ms : MA) (mt : MT) (x : Str) : MS := fun η S => (ms η S).bind fun p => match p.1 with
  | .new ds :: ws => (items (.new ds :: ws)).bind fun es => if es.length ≤ sizeLine then (mt (η.set i (some (.dat (.list es)))) p.2).bind fun t => if t.1 = true then some (.ret (.dat (.bool false)), η.set i (some (.dat (.list es))), t.2) else if FlatS t.2 ∧ ds.length < sizeLine ∧ i < η.length then some (.next, η.set i none, t.2) else none else none
  | _ => none
theorem BpA.flat {K : PySem.W.Frag} {β β' : Ad} {H H' : Hp} : ∀ {vs : List V} {ds : List D}, BpA K β H vs ds → ds.all isFlat = true → BpA K β' H' vs ds
  | _, _, .nil, _ => .nil
  | _, _, .cons h r, f => by
    rw [List.all_cons, Bool.and_eq_true] at f
    refine .cons ?_ (BpA.flat r f.2)
    cases h with
    | non => exact .non
    | bl b => exact .bl b
    | int i => exact .int i
    | str x => exact .str x
    | lst => cases f.1
    | tup => cases f.1
theorem RvA.fromN {K : PySem.W.Frag} {β : Ad} {S : Sto} {H0 H : Hp} {vs : List V} {ws : List W} (c0 : CellL β H0) (r : RrA K β S H0 H vs ws) : RvA K β H vs ws := r.rva c0
section
variable {X : Cx} {es : List Expr} {e0 : Expr} {t : Expr} {ms : MA} {mt : MT} {i : Nat} {x : Str} {y z : Str} {rest : List Stmt} {mr : MS} {pos pos' p1 p2 p3 p5 p7 p8 apos p4 p6 z1 z2 : Pos} {n4 n6 n1 : Nat}
theorem ds_tri (hN : X.N.Nodup) (hi : X.N[i]? = some x) (hx : Loc X.env.scope x) (hv : Vis X.env.scope x) (ha : DA X es ms) (ht : DT X t mt) (hr : DSs X rest mr)
    (hw : swapsWith (.List es p1) (some (.Name x pos')) pos.line X.env = pure false := by rfl) (hf : X.fn x = true ∨ X.env.scope.names.lookup x = some .local := by first | exact .inl rfl | exact .inr rfl | assumption)
    (hd : (x == ("__debug__" : Str)) = false := by decide) (hcd : (x == ("__classdict__" : Str)) = false := by decide)
    (hbase : attributeBase (.Subscript (.Name x p5) (.Constant (.int 0) n6 p6) p7) "append" X.env (eval (.Subscript (.Name x p5) (.Constant (.int 0) n6 p6) p7) X.env) = eval (.Subscript (.Name x p5) (.Constant (.int 0) n6 p6) p7) X.env := by rfl)
    (hfew : ((backTo p8 (starEach [.Constant (.str y) n4 p4] X.env)).all (fun x => !x.1) && (backToKw p8 (keywordEach [] X.env)).all (fun x => x.1.isSome)
      && decide ([Expr.Constant (.str y) n4 p4].length + ([] : List Keyword).length + (if ([] : List Keyword).isEmpty then 0 else 1) < 30)) = true := by rfl)
    (hline : (apos.endLine == p8.line) = true := by rfl) (hs : starEach [.Constant (.str y) n4 p4] X.env = (false, eval (.Constant (.str y) n4 p4) X.env) :: starEach [] X.env := by rfl)
    (hsw : swapsWith (.Call (.Attribute (.Subscript (.Name x p5) (.Constant (.int 0) n6 p6) p7) "append" apos) [.Constant (.str y) n4 p4] [] p8) none p3.line X.env = pure false := by rfl) :
    DSs X (.Assign [.Name x pos'] (.List es p1) pos :: .If t [.Return (some (.Constant (.bool false) n1 z1)) z2] [] p2 :: .Expr (.Call (.Attribute (.Subscript (.Name x p5) (.Constant (.int 0) n6 p6) p7) "append" apos) [.Constant (.str y) n4 p4] [] p8) p3 :: rest) (mSeq (mTri i ms mt y) mr) := by
  refine (pss_cons (ps_set hN hi hx (pe_lst ha) hw hf) (pss_cons (ps_if ht (pss_one (ps_ret pe_bl)) pss_nil) (pss_cons (ps_expr (pe_bm PySem.F.plainAttrs_list PySem.F.slot_list_append PySem.F.type_list_append mt_append (pe_ix ix_list (pe_var hi hv hd hcd) pe_int (fun _ _ => rfl)) (pa_cons pe_str pa_nil hs) hbase hfew hline hs (by rfl)) hsw) hr))).imp fun D σ H h => ?_
  have h' := tSt_seq h
  obtain ⟨β, η, S, r, η', S', R, e, q⟩ := h'
  unfold mTri at e
  cases e1 : ms η S with
  | none => rw [e1] at e; cases e
  | some p =>
    obtain ⟨ws0, S1⟩ := p
    rw [e1] at e
    simp only [Option.bind_some] at e
    cases ws0 with
    | nil => cases e
    | cons w0 ws =>
      cases w0 with
      | dat _ => cases e
      | hd _ => cases e
      | frz _ => cases e
      | new ds =>
        dsimp only at e
        cases e2 : items (.new ds :: ws) with
        | none => rw [e2] at e; cases e
        | some es' =>
          rw [e2] at e
          simp only [Option.bind_some] at e
          split at e
          case isFalse => cases e
          rename_i hz
          cases e3 : mt (η.set i (some (.dat (.list es')))) S1 with
          | none => rw [e3] at e; cases e
          | some tt =>
            obtain ⟨bo, S2⟩ := tt
            rw [e3] at e
            simp only [Option.bind_some] at e
            refine ⟨β, η, S, _, S1, R, e1, fun vs H1 k1 c1 r1 => ?_⟩
            have rva := RvA.fromN R.cl r1
            have bpa := rva.items e2
            obtain ⟨ns, rn, nd, fr, cn⟩ := r1
            cases rn with
            | val rw' _ => exact rw'.elim
            | @new a1 xs1 vs' _ _ ns' hx1 bx1 rn' =>
              have n1 : H a1 = none := fr a1 List.mem_cons_self
              have na1 : a1 ∉ β.al := notin_of R.cl n1
              refine ⟨by rw [bpa.len]; exact hz, fun l hl => ?_⟩
              have R1 := R.keep k1 c1
              have kl : Keep β H1 (L2.upd H1 l (.lst (.ref a1 :: vs'))) := keep_upd hl
              have cl' := c1.upd (o := .lst (.ref a1 :: vs')) hl
              have R2 : SR X.K β (η.set i (some (.dat (.list es')))) S1 (σ.set i (some (.ref l))) (L2.upd H1 l (.lst (.ref a1 :: vs'))) :=
                (R1.keep kl cl').set (w := .dat (.list es')) (Bp.lst (notin_of c1.cl hl) upd_same (bpa.same c1.cl (same_upd hl) subR))
              refine ⟨β, _, S1, bo, S2, R2, e3, fun H3 k3 c3 => ?_⟩
              have kH3 : Keep β H H3 := (k1.trans kl).trans k3
              cases bo with
              | true =>
                rw [if_pos rfl] at e
                cases e
                exact q β H3 Grown.refl (fun _ h => .inl h) kH3 (.bl false) c3 (show Rw _ β H3 (.bl false) (.dat (.bool false)) from .bl false)
              | false =>
                rw [if_neg Bool.false_ne_true] at e
                split at e
                case isFalse => cases e
                rename_i hc
                cases e
                obtain ⟨hflat, hlen, hil⟩ := hc
                have hl3 : H3 l = some (.lst (.ref a1 :: vs')) := (k3 l _ upd_same).elim (fun z => absurd (c1.cl.1 l z) (notin_of c1.cl hl)) id
                have hne : a1 ≠ l := ne_of_none hx1 hl
                have ha3 : H3 a1 = some (.lst xs1) := (k3 a1 _ (by rw [upd_ne hne]; exact hx1)).elim (fun z => absurd (R.cl.1 a1 z) na1) id
                have hσ : (σ.set i (some (V.ref l)))[i]? = some (some (.ref l)) := List.getElem?_set_self (by rw [← R.len]; exact hil)
                have e4 : ∀ a, a ≠ a1 → L2.upd H3 a1 (.lst (xs1 ++ [.str y])) a = H3 a := fun a h => upd_ne h
                have k34 : ∀ a o, a ≠ a1 → H3 a = some o → L2.upd H3 a1 (.lst (xs1 ++ [.str y])) a = some o := fun a o h e => by rw [e4 a h]; exact e
                have cl4 : CellL β (L2.upd H3 a1 (.lst (xs1 ++ [.str y]))) := ⟨c3.cl.1, fun a ha => let ⟨zs, e⟩ := c3.cl.2 a ha; ⟨zs, k34 a _ (fun z => na1 (z ▸ ha)) e⟩⟩
                have c4 : Cells X.K β S' (L2.upd H3 a1 (.lst (xs1 ++ [.str y]))) := ⟨cl4, c3.nd, c3.len, fun j a es q1 q2 => by
                  obtain ⟨zs, hz, rz⟩ := c3.at_ j a es q1 q2
                  exact ⟨zs, k34 a _ (fun z => na1 (z ▸ c3.cl.1 a (List.mem_of_getElem? q1))) hz, rz.flat (hflat es (List.mem_of_getElem? q2))⟩⟩
                have k4 : Keep β H (L2.upd H3 a1 (.lst (xs1 ++ [.str y]))) := fun a o e => (kH3 a o e).elim .inl fun z => .inr (k34 a o (fun w => by rw [w, n1] at e; cases e) z)
                have R4 := R.keep k4 c4
                have R5 : SR X.K β (η.set i none) S' (σ.set i (some (.ref l))) (L2.upd H3 a1 (.lst (xs1 ++ [.str y]))) := ⟨c4, by rw [List.length_set, List.length_set]; exact R.len, fun j w' e => by
                  by_cases h : j = i
                  · subst h
                    rw [List.getElem?_set_self hil] at e
                    cases e
                  · rw [List.getElem?_set_ne (Ne.symm h)] at e
                    obtain ⟨u, e1, q⟩ := R4.env j w' e
                    exact ⟨u, by rw [List.getElem?_set_ne (Ne.symm h)]; exact e1, q⟩⟩
                exact ⟨.ref l, hσ, l, (.ref a1 :: vs'), 0, .ref a1, rfl, rfl, SqL.of hl3, atI_nat (j := 0) rfl, .inl ⟨rfl, xs1, SqL.of ha3⟩, a1, xs1, .str y, rfl, rfl, ha3, by rw [bx1.len]; exact hlen, q β _ Grown.refl (fun _ h => .inl h) k4 _ R5⟩
end
end BV
set_option Elab.async false
set_option linter.all false
set_option maxRecDepth 100000
set_option maxHeartbeats 1000000
namespace BV
open PySem PySem.Spec PyProof.Rows L2
/-! ### what comes of it, and that something comes of it: from left to right -/
def ok {α : Type} (o : Option α) (Q : α → Prop) : Prop := ∃ a, o = some a ∧ Q a
section
variable {α β : Type}
@[simp] theorem ok_somep {a : α} {Q : α → Prop} : ok (some a) Q ↔ Q a := ⟨fun ⟨b, e, q⟩ => (by cases e; exact q), fun q => ⟨a, rfl, q⟩⟩
@[simp ↓] theorem ok_some {a : α} {Q : α → Prop} : ok (some a) Q ↔ Q a := ⟨fun ⟨b, e, q⟩ => (by cases e; exact q), fun q => ⟨a, rfl, q⟩⟩
@[simp ↓] theorem ok_none {Q : α → Prop} : ok (none : Option α) Q ↔ False := ⟨fun ⟨b, e, _⟩ => (by cases e), False.elim⟩
theorem ok_bind {o : Option α} {f : α → Option β} {Q : β → Prop} : ok (o.bind f) Q ↔ ok o fun a => ok (f a) Q := by
  cases o with
  | none => exact ⟨fun ⟨_, e, _⟩ => (by cases e), fun ⟨_, e, _⟩ => (by cases e)⟩
  | some a => exact ⟨fun h => ⟨a, rfl, h⟩, fun ⟨b, e, h⟩ => (by cases e; exact h)⟩
theorem ok_map {o : Option α} {f : α → β} {Q : β → Prop} : ok (o.map f) Q ↔ ok o fun a => Q (f a) := by
  cases o with
  | none => exact ⟨fun ⟨_, e, _⟩ => (by cases e), fun ⟨_, e, _⟩ => (by cases e)⟩
  | some a => exact ⟨fun ⟨b, e, h⟩ => ⟨a, rfl, (by cases e; exact h)⟩, fun ⟨b, e, h⟩ => ⟨f a, rfl, (by cases e; exact h)⟩⟩
@[simp ↓] theorem ok_ite {c : Prop} [Decidable c] {o : Option α} {Q : α → Prop} : ok (if c then o else none) Q ↔ c ∧ ok o Q := by
  by_cases h : c
  · rw [if_pos h]; exact ⟨fun x => ⟨h, x⟩, fun x => x.2⟩
  · rw [if_neg h]; exact ⟨fun ⟨_, e, _⟩ => (by cases e), fun x => absurd x.1 h⟩
theorem ok_mono {o : Option α} {P Q : α → Prop} (h : ok o P) (i : ∀ a, P a → Q a) : ok o Q := let ⟨a, e, p⟩ := h; ⟨a, e, i a p⟩
theorem ok_eq {o : Option α} {a : α} : ok o (fun x => x = a) ↔ o = some a := ⟨fun ⟨b, e, h⟩ => (by rw [e, h]), fun e => ⟨a, e, rfl⟩⟩
theorem ok_of {o : Option α} {a : α} {Q : α → Prop} (e : o = some a) (h : Q a) : ok o Q := ⟨a, e, h⟩
theorem ok_b {o : Option α} {f : α → Option β} {Q : β → Prop} {K : α → Prop} (h : ∀ a, K a ↔ ok (f a) Q) : ok (o.bind f) Q ↔ ok o K := by
  rw [ok_bind]
  exact ⟨fun ⟨a, e, q⟩ => ⟨a, e, (h a).mpr q⟩, fun ⟨a, e, q⟩ => ⟨a, e, (h a).mp q⟩⟩
theorem ok_m {o : Option α} {f : α → β} {Q : β → Prop} {K : α → Prop} (h : ∀ a, K a ↔ Q (f a)) : ok (o.map f) Q ↔ ok o K := by
  rw [ok_map]
  exact ⟨fun ⟨a, e, q⟩ => ⟨a, e, (h a).mpr q⟩, fun ⟨a, e, q⟩ => ⟨a, e, (h a).mp q⟩⟩
end
theorem ok_bs {α β : Type} {o : Option α} {f : α → Option β} {Q : β → Prop} {K : α → Prop} (h : ∀ a, K a ↔ ok (f a) Q) : ok o K ↔ ok (o.bind f) Q := (ok_b h).symm
theorem ok_ms {α β : Type} {o : Option α} {f : α → β} {Q : β → Prop} {K : α → Prop} (h : ∀ a, K a ↔ Q (f a)) : ok o K ↔ ok (o.map f) Q := (ok_m h).symm
abbrev QE := W × Sto → Prop
abbrev QS := Fl × Env × Sto → Prop
abbrev QT := Bool × Sto → Prop
abbrev QA := List W × Sto → Prop
abbrev QI := List D × Gd × Sto → Prop
abbrev QO := Option Int × Sto → Prop
/-! values, with what comes behind -/
def kV (Q : QE) (S : Sto) : W → Prop := fun w => Q (w, S)
def kO (f : F2) (b : ME) (η : Env) (Q : QE) : QE := fun p => ok (b η p.2) fun q => ok (f q.2 p.1 q.1) (kV Q q.2)
def kO2 (f : F2) (w : W) (Q : QE) : QE := fun q => ok (f q.2 w q.1) (kV Q q.2)
def kU (f : W → Option W) (Q : QE) : QE := fun p => ok (f p.1) (kV Q p.2)
def kC (f : Sto → List W → Option W) (Q : QE) : QA := fun p => ok (f p.2 p.1) (kV Q p.2)
section
variable {η : Env} {S : Sto} {Q : QE} {f : F2} {a b : ME} {w : W}
@[simp ↓] theorem k_V : kV Q S w ↔ Q (w, S) := id Iff.rfl
@[simp ↓] theorem w_dat {d : D} : ok (mDat d η S) Q ↔ Q (.dat d, S) := id ok_some
def kVar (Q : QE) (S : Sto) : Option (Option W) → Prop := fun o => match o with | some (some w) => Q (w, S) | _ => False
@[simp ↓] theorem w_var {i : Nat} : ok (mVar i η S) Q ↔ kVar Q S η[i]? := by
  unfold mVar kVar
  cases η[i]? with
  | none => simp
  | some o => cases o <;> simp
@[simp] theorem k_var : kVar Q S (some (some w)) ↔ Q (w, S) := id Iff.rfl
@[simp ↓] theorem w_op : ok (mOp f a b η S) Q ↔ ok (a η S) (kO f b η Q) := id (ok_b fun p => by
  unfold kO
  exact (ok_bs fun q => (ok_ms fun w => Iff.rfl)))
@[simp ↓] theorem k_O : kO f b η Q (w, S) ↔ ok (b η S) (kO2 f w Q) := id Iff.rfl
@[simp ↓] theorem k_O2 {u : W} : kO2 f w Q (u, S) ↔ ok (f S w u) (kV Q S) := id Iff.rfl
@[simp ↓] theorem w_un {g : W → Option W} : ok (mUn g a η S) Q ↔ ok (a η S) (kU g Q) := id (ok_b fun p => (ok_ms fun w => Iff.rfl))
@[simp ↓] theorem k_U {g : W → Option W} : kU g Q (w, S) ↔ ok (g w) (kV Q S) := id Iff.rfl
@[simp ↓] theorem w_call {g : Sto → List W → Option W} {m : MA} : ok (mCall g m η S) Q ↔ ok (m η S) (kC g Q) := id (ok_b fun p => (ok_ms fun w => Iff.rfl))
@[simp ↓] theorem k_C {g : Sto → List W → Option W} {ws : List W} : kC g Q (ws, S) ↔ ok (g S ws) (kV Q S) := id Iff.rfl
/-! tests -/
def kTe (Q : QT) : QE := fun p => ok (bview p.1) fun b => Q (b, p.2)
def kTr (Q : QT) : QE := fun p => ok (tru p.2 p.1) fun b => Q (b, p.2)
@[simp ↓] theorem w_test {Q : QT} : ok (mTest a η S) Q ↔ ok (a η S) (kTe Q) := id (ok_b fun p => (ok_ms fun w => Iff.rfl))
@[simp ↓] theorem k_Te {Q : QT} {c : Bool} : kTe Q (.dat (.bool c), S) ↔ Q (c, S) := id ok_some
@[simp ↓] theorem w_tru {Q : QT} : ok (mTru a η S) Q ↔ ok (a η S) (kTr Q) := id (ok_b fun p => (ok_ms fun w => Iff.rfl))
@[simp ↓] theorem k_Tr {Q : QT} {c : Bool} : kTr Q (.dat (.bool c), S) ↔ Q (c, S) := id ok_some
theorem k_Tr' {Q : QT} : kTr Q (w, S) ↔ ok (tru S w) fun b => Q (b, S) := id Iff.rfl
def kAndT (t : MT) (η : Env) (Q : QT) : QT := fun p => if p.1 = true then ok (t η p.2) Q else Q (false, p.2)
def kOrT (t : MT) (η : Env) (Q : QT) : QT := fun p => if p.1 = true then Q (true, p.2) else ok (t η p.2) Q
def kNotT (Q : QT) : QT := fun p => Q (!p.1, p.2)
theorem iteT {c : Prop} [Decidable c] {α : Type} {o1 o2 : Option α} {Q : α → Prop} : ok (if c then o1 else o2) Q ↔ (if c then ok o1 Q else ok o2 Q) := by split <;> exact Iff.rfl
@[simp ↓] theorem w_andT {t u : MT} {Q : QT} : ok (mAndT t u η S) Q ↔ ok (t η S) (kAndT u η Q) := id (ok_b fun p => by
  rw [iteT]; unfold kAndT; split <;> simp)
@[simp ↓] theorem w_orT {t u : MT} {Q : QT} : ok (mOrT t u η S) Q ↔ ok (t η S) (kOrT u η Q) := id (ok_b fun p => by
  rw [iteT]; unfold kOrT; split <;> simp)
@[simp ↓] theorem w_notT {t : MT} {Q : QT} : ok (mNotT t η S) Q ↔ ok (t η S) (kNotT Q) := id (ok_m fun p => Iff.rfl)
@[simp ↓] theorem k_AndT {t : MT} {Q : QT} {c : Bool} : kAndT t η Q (c, S) ↔ if c = true then ok (t η S) Q else Q (false, S) := id Iff.rfl
@[simp ↓] theorem k_OrT {t : MT} {Q : QT} {c : Bool} : kOrT t η Q (c, S) ↔ if c = true then Q (true, S) else ok (t η S) Q := id Iff.rfl
@[simp ↓] theorem k_NotT {Q : QT} {c : Bool} : kNotT Q (c, S) ↔ Q (!c, S) := id Iff.rfl
@[simp ↓] theorem w_yes {Q : QT} : ok (mYes η S) Q ↔ Q (true, S) := id ok_some
def kIf (a b : ME) (η : Env) (Q : QE) : QT := fun p => if p.1 = true then ok (a η p.2) Q else ok (b η p.2) Q
@[simp ↓] theorem w_if {t : MT} : ok (mIf t a b η S) Q ↔ ok (t η S) (kIf a b η Q) := id (ok_b fun p => by unfold kIf; split <;> rfl)
@[simp ↓] theorem k_If {c : Bool} : kIf a b η Q (c, S) ↔ if c = true then ok (a η S) Q else ok (b η S) Q := id Iff.rfl
def kAndV (b : ME) (η : Env) (Q : QE) : QE := fun p => ok (bview p.1) fun c => if c = true then ok (b η p.2) Q else Q (.dat (.bool false), p.2)
def kOrV (b : ME) (η : Env) (Q : QE) : QE := fun p => ok (bview p.1) fun c => if c = true then Q (.dat (.bool true), p.2) else ok (b η p.2) Q
def kNotV (Q : QE) : QE := fun p => ok (bview p.1) fun c => Q (.dat (.bool !c), p.2)
@[simp ↓] theorem w_andV : ok (mAndV a b η S) Q ↔ ok (a η S) (kAndV b η Q) := id (ok_b fun p => by
  unfold kAndV
  cases bview p.1 with
  | none => simp
  | some c => cases c <;> simp)
@[simp ↓] theorem w_orV : ok (mOrV a b η S) Q ↔ ok (a η S) (kOrV b η Q) := id (ok_b fun p => by
  unfold kOrV
  cases bview p.1 with
  | none => simp
  | some c => cases c <;> simp)
@[simp ↓] theorem w_notV : ok (mNotV a η S) Q ↔ ok (a η S) (kNotV Q) := id (ok_b fun p => by
  unfold kNotV
  cases bview p.1 with
  | none => simp
  | some c => cases c <;> simp)
@[simp ↓] theorem k_AndV {c : Bool} : kAndV b η Q (.dat (.bool c), S) ↔ if c = true then ok (b η S) Q else Q (.dat (.bool false), S) := id ok_some
@[simp ↓] theorem k_OrV {c : Bool} : kOrV b η Q (.dat (.bool c), S) ↔ if c = true then Q (.dat (.bool true), S) else ok (b η S) Q := id ok_some
@[simp ↓] theorem k_NotV {c : Bool} : kNotV Q (.dat (.bool c), S) ↔ Q (.dat (.bool !c), S) := id ok_some
def kCh (f' : F2) (c : ME) (η : Env) (v : W) (S : Sto) (Q : QE) : W → Prop := fun w => ok (bview w) fun t => if t = true then ok (c η S) (kO2 f' v Q) else Q (.dat (.bool false), S)
def kCh1 (f f' : F2) (b c : ME) (η : Env) (Q : QE) : QE := fun p => ok (b η p.2) fun q => ok (f q.2 p.1 q.1) (kCh f' c η q.1 q.2 Q)
def kCh2 (f f' : F2) (w : W) (c : ME) (η : Env) (Q : QE) : QE := fun q => ok (f q.2 w q.1) (kCh f' c η q.1 q.2 Q)
@[simp ↓] theorem w_chain {f' : F2} {c : ME} : ok (mChain f f' a b c η S) Q ↔ ok (a η S) (kCh1 f f' b c η Q) := id (ok_b fun p => by
  unfold kCh1
  refine ok_bs fun q => ?_
  refine ok_bs fun w => ?_
  unfold kCh
  cases bview w with
  | none => simp
  | some t =>
    cases t with
    | false => simp
    | true =>
      rw [ok_some, if_pos rfl]
      exact (ok_bs fun r => (ok_ms fun w => Iff.rfl)))
@[simp ↓] theorem k_Ch1 {f' : F2} {c : ME} : kCh1 f f' b c η Q (w, S) ↔ ok (b η S) (kCh2 f f' w c η Q) := id Iff.rfl
@[simp ↓] theorem k_Ch2 {f' : F2} {c : ME} {u : W} : kCh2 f f' w c η Q (u, S) ↔ ok (f S w u) (kCh f' c η u S Q) := id Iff.rfl
@[simp ↓] theorem k_Ch {f' : F2} {c : ME} {v : W} {t : Bool} : kCh f' c η v S Q (.dat (.bool t)) ↔ if t = true then ok (c η S) (kO2 f' v Q) else Q (.dat (.bool false), S) := id ok_some
/-! lists of values -/
def kCons (r : MA) (η : Env) (Q : QA) : QE := fun p => ok (r η p.2) fun q => Q (p.1 :: q.1, q.2)
def kCons2 (w : W) (Q : QA) : QA := fun q => Q (w :: q.1, q.2)
@[simp ↓] theorem w_cons {r : MA} {Q : QA} : ok (mCons a r η S) Q ↔ ok (a η S) (kCons r η Q) := id (ok_b fun p => (ok_ms fun w => Iff.rfl))
@[simp ↓] theorem k_Cons {r : MA} {Q : QA} : kCons r η Q (w, S) ↔ ok (r η S) (kCons2 w Q) := id Iff.rfl
@[simp ↓] theorem k_Cons2 {Q : QA} {ws : List W} : kCons2 w Q (ws, S) ↔ Q (w :: ws, S) := id Iff.rfl
@[simp ↓] theorem w_nil {Q : QA} : ok (mNil η S) Q ↔ Q ([], S) := id ok_some
def kTup (Q : QE) : QA := fun p => ok (items p.1) fun ds => ds.length ≤ sizeLine ∧ Q (.dat (.tuple ds), p.2)
def kLst (Q : QE) : QA := fun p => ok (items p.1) fun ds => ds.length ≤ sizeLine ∧ Q (.new ds, p.2)
@[simp ↓] theorem w_tup {m : MA} : ok (mTup m η S) Q ↔ ok (m η S) (kTup Q) := id (ok_b fun p => (ok_bs fun ds => by simp))
@[simp ↓] theorem w_lst {m : MA} : ok (mLst m η S) Q ↔ ok (m η S) (kLst Q) := id (ok_b fun p => (ok_bs fun ds => by simp))
theorem k_Tup' {ws : List W} : kTup Q (ws, S) ↔ ok (items ws) fun ds => ds.length ≤ sizeLine ∧ Q (.dat (.tuple ds), S) := id Iff.rfl
theorem k_Lst' {ws : List W} : kLst Q (ws, S) ↔ ok (items ws) fun ds => ds.length ≤ sizeLine ∧ Q (.new ds, S) := id Iff.rfl
/-- the items one by one -/
def kIt (Q : List D → Prop) : List W → List D → Prop := fun ws acc => ok (items ws) fun ds => Q (acc.reverse ++ ds)
@[simp ↓] theorem k_Tup {ws : List W} : kTup Q (ws, S) ↔ kIt (fun ds => ds.length ≤ sizeLine ∧ Q (.dat (.tuple ds), S)) ws [] := id Iff.rfl
@[simp ↓] theorem k_Lst {ws : List W} : kLst Q (ws, S) ↔ kIt (fun ds => ds.length ≤ sizeLine ∧ Q (.new ds, S)) ws [] := id Iff.rfl
@[simp ↓] theorem k_It0 {Q : List D → Prop} {acc : List D} : kIt Q [] acc ↔ Q acc.reverse := by
  unfold kIt
  rw [items, ok_some, List.append_nil]
theorem k_It {Q : List D → Prop} {acc : List D} {ws : List W} {d : D} (h : ditem w = some d) : kIt Q (w :: ws) acc ↔ kIt Q ws (d :: acc) := by
  unfold kIt
  rw [items, h, Option.bind_some, ok_map, List.reverse_cons]
  simp only [List.append_assoc, List.singleton_append]
@[simp ↓] theorem k_Itd {Q : List D → Prop} {acc : List D} {ws : List W} {d : D} : kIt Q (.dat d :: ws) acc ↔ kIt Q ws (d :: acc) := id (k_It rfl)
@[simp ↓] theorem k_Itn {Q : List D → Prop} {acc : List D} {ws : List W} {ds : List D} : kIt Q (.new ds :: ws) acc ↔ kIt Q ws (.list ds :: acc) := id (k_It rfl)
/-! slices -/
def kCut (lo hi : MO) (η : Env) (Q : QE) : QE := fun p => ok (lo η p.2) fun l => ok (hi η l.2) fun h => ok (fSl p.1 l.1 h.1 h.2) (kV Q h.2)
def kCut1 (w : W) (hi : MO) (η : Env) (Q : QE) : QO := fun l => ok (hi η l.2) fun h => ok (fSl w l.1 h.1 h.2) (kV Q h.2)
def kCut2 (w : W) (l : Option Int) (Q : QE) : QO := fun h => ok (fSl w l h.1 h.2) (kV Q h.2)
@[simp ↓] theorem w_cut {lo hi : MO} : ok (mCut a lo hi η S) Q ↔ ok (a η S) (kCut lo hi η Q) := id (ok_b fun p => (ok_bs fun l => (ok_bs fun h => (ok_ms fun w => Iff.rfl))))
@[simp ↓] theorem k_Cut {lo hi : MO} : kCut lo hi η Q (w, S) ↔ ok (lo η S) (kCut1 w hi η Q) := id Iff.rfl
@[simp ↓] theorem k_Cut1 {hi : MO} {l : Option Int} : kCut1 w hi η Q (l, S) ↔ ok (hi η S) (kCut2 w l Q) := id Iff.rfl
@[simp ↓] theorem k_Cut2 {l h : Option Int} : kCut2 w l Q (h, S) ↔ ok (fSl w l h S) (kV Q S) := id Iff.rfl
@[simp ↓] theorem w_oNone {Q : QO} : ok (oNone η S) Q ↔ Q (none, S) := id ok_some
def kSo (Q : QO) : QE := fun p => ok (iview p.1) fun i => Q (some i, p.2)
@[simp ↓] theorem w_oSome {Q : QO} : ok (oSome a η S) Q ↔ ok (a η S) (kSo Q) := id (ok_b fun p => (ok_ms fun w => Iff.rfl))
@[simp ↓] theorem k_So {Q : QO} {i : Int} : kSo Q (.dat (.int i), S) ↔ Q (some i, S) := id ok_some
/-! calls -/
def kFn (n : Nat) (F : MF) (Q : QE) : QA := fun p => p.1.length = n ∧ ok (F (p.1.map arg) p.2) Q
@[simp ↓] theorem w_fn {n : Nat} {F : MF} {m : MA} : ok (mFn n F m η S) Q ↔ ok (m η S) (kFn n F Q) := id (ok_b fun p => by unfold kFn; rw [ok_ite])
/-- the arguments one by one -/
def kArg (n : Nat) (F : MF) (S : Sto) (Q : QE) : List W → List W → Prop := fun ws acc => acc.length + ws.length = n ∧ ok (F (acc.reverse ++ ws.map arg) S) Q
@[simp ↓] theorem k_Fn {n : Nat} {F : MF} {ws : List W} : kFn n F Q (ws, S) ↔ kArg n F S Q ws [] := by
  unfold kFn kArg
  simp only [List.length_nil, Nat.zero_add, List.reverse_nil, List.nil_append]
theorem k_Arg {n : Nat} {F : MF} {ws acc : List W} {u : W} (h : arg w = u) : kArg n F S Q (w :: ws) acc ↔ kArg n F S Q ws (u :: acc) := by
  unfold kArg
  rw [List.map_cons, h, List.length_cons, List.length_cons, List.reverse_cons, List.append_assoc, List.singleton_append]
  have : acc.length + (ws.length + 1) = acc.length + 1 + ws.length := by omega
  rw [this]
@[simp ↓] theorem k_Argd {n : Nat} {F : MF} {ws acc : List W} {d : D} : kArg n F S Q (.dat d :: ws) acc ↔ kArg n F S Q ws (.dat d :: acc) := id (k_Arg rfl)
@[simp ↓] theorem k_Argn {n : Nat} {F : MF} {ws acc : List W} {ds : List D} : kArg n F S Q (.new ds :: ws) acc ↔ kArg n F S Q ws (.dat (.list ds) :: acc) := id (k_Arg rfl)
@[simp ↓] theorem k_Argh {n : Nat} {F : MF} {ws acc : List W} {i : Nat} : kArg n F S Q (.hd i :: ws) acc ↔ kArg n F S Q ws (.hd i :: acc) := id (k_Arg rfl)
@[simp ↓] theorem k_Argf {n : Nat} {F : MF} {ws acc : List W} {ds : List D} : kArg n F S Q (.frz ds :: ws) acc ↔ kArg n F S Q ws (.frz ds :: acc) := id (k_Arg rfl)
@[simp ↓] theorem k_Arg0 {n : Nat} {F : MF} {acc : List W} : kArg n F S Q [] acc ↔ acc.length = n ∧ ok (F acc.reverse S) Q := by
  unfold kArg
  simp only [List.length_nil, Nat.add_zero, List.map_nil, List.append_nil]
def kFnK (n : Nat) (is : List Nat) (F : MF) (Q : QE) : QA := fun p => ok (pick is p.1) fun us => us.length = n ∧ ok (F (us.map arg) p.2) Q
@[simp ↓] theorem w_fnK {n : Nat} {is : List Nat} {F : MF} {m : MA} : ok (mFnK n is F m η S) Q ↔ ok (m η S) (kFnK n is F Q) := id (ok_b fun p => (ok_bs fun us => by rw [ok_ite]))
theorem k_FnK {n : Nat} {is : List Nat} {F : MF} {ws us : List W} (h : pick is ws = some us) : kFnK n is F Q (ws, S) ↔ kArg n F S Q us [] := by
  unfold kFnK kArg
  dsimp only
  rw [h, ok_some]
  simp only [List.length_nil, Nat.zero_add, List.reverse_nil, List.nil_append]
def kPk (n : Nat) (F : MF) (S : Sto) (Q : QE) (ws : List W) : Option (List W) → Prop := fun o => match o with | some us => kArg n F S Q us [] | none => False
@[simp ↓] theorem k_FnK' {n : Nat} {is : List Nat} {F : MF} {ws : List W} : kFnK n is F Q (ws, S) ↔ kPk n F S Q ws (pick is ws) := by
  unfold kPk
  split
  · rename_i h; exact k_FnK h
  · rename_i h
    unfold kFnK
    dsimp only
    rw [h]
    simp
@[simp] theorem k_Pk {n : Nat} {F : MF} {ws us : List W} : kPk n F S Q ws (some us) ↔ kArg n F S Q us [] := id Iff.rfl
@[simp] theorem pk_nil {α : Type} {ws : List α} : pick [] ws = some [] := id rfl
@[simp] theorem pk_cons {α : Type} {i : Nat} {is : List Nat} {ws : List α} : pick (i :: is) ws = ws[i]?.bind fun w => (pick is ws).map fun us => w :: us := id rfl
def kFnC (fl : List Bool) (F : MF) (Q : QE) : QA := fun p => ok (argsC fl p.1 p.2) fun q => ok (F q.1 q.2) fun r => ok (closeW p.2.length r.2 r.1) fun w => Q (w, r.2.take p.2.length)
def kFnC2 (F : MF) (n : Nat) (Q : QE) : QA := fun q => ok (F q.1 q.2) fun r => ok (closeW n r.2 r.1) fun w => Q (w, r.2.take n)
def kBk (n : Nat) (Q : QE) : QE := fun r => ok (closeW n r.2 r.1) fun w => Q (w, r.2.take n)
@[simp ↓] theorem w_fnC {fl : List Bool} {F : MF} {m : MA} : ok (mFnC fl F m η S) Q ↔ ok (m η S) (kFnC fl F Q) := id (ok_b fun p => (ok_bs fun q => (ok_bs fun r => (ok_ms fun w => Iff.rfl))))
@[simp ↓] theorem k_FnC {fl : List Bool} {F : MF} {ws : List W} : kFnC fl F Q (ws, S) ↔ ok (argsC fl ws S) (kFnC2 F S.length Q) := id Iff.rfl
@[simp ↓] theorem k_FnC2 {F : MF} {n : Nat} {ws : List W} : kFnC2 F n Q (ws, S) ↔ ok (F ws S) (kBk n Q) := id Iff.rfl
@[simp ↓] theorem k_Bkd {n : Nat} {d : D} : kBk n Q (.dat d, S) ↔ Q (.dat d, S.take n) := id ok_some
@[simp ↓] theorem k_Bkn {n : Nat} {ds : List D} : kBk n Q (.new ds, S) ↔ Q (.new ds, S.take n) := id ok_some
/-! statements -/
def kSeq (m : MS) (Q : QS) : QS := fun p => ok (match p.1 with | .next => m p.2.1 p.2.2 | r => some (r, p.2.1, p.2.2)) Q
@[simp ↓] theorem w_seq {m1 m2 : MS} {Q : QS} : ok (mSeq m1 m2 η S) Q ↔ ok (m1 η S) (kSeq m2 Q) := id (ok_b fun p => Iff.rfl)
@[simp ↓] theorem k_SeqN {m : MS} {Q : QS} : kSeq m Q (.next, η, S) ↔ ok (m η S) Q := id Iff.rfl
@[simp ↓] theorem k_SeqR {m : MS} {Q : QS} : kSeq m Q (.ret w, η, S) ↔ Q (.ret w, η, S) := id ok_some
@[simp ↓] theorem k_SeqC {m : MS} {Q : QS} : kSeq m Q (.cont, η, S) ↔ Q (.cont, η, S) := id ok_some
@[simp ↓] theorem k_SeqB {m : MS} {Q : QS} : kSeq m Q (.brk, η, S) ↔ Q (.brk, η, S) := id ok_some
def kIfS (m1 m2 : MS) (η : Env) (Q : QS) : QT := fun p => if p.1 = true then ok (m1 η p.2) Q else ok (m2 η p.2) Q
@[simp ↓] theorem w_ifS {t : MT} {m1 m2 : MS} {Q : QS} : ok (mIfS t m1 m2 η S) Q ↔ ok (t η S) (kIfS m1 m2 η Q) := id (ok_b fun p => by unfold kIfS; split <;> rfl)
@[simp ↓] theorem k_IfS {c : Bool} {m1 m2 : MS} {Q : QS} : kIfS m1 m2 η Q (c, S) ↔ if c = true then ok (m1 η S) Q else ok (m2 η S) Q := id Iff.rfl
def kSet (i : Nat) (η : Env) (Q : QS) : QE := fun p => Q (.next, η.set i (some (arg p.1)), p.2)
@[simp ↓] theorem w_set {i : Nat} {Q : QS} : ok (mSet i a η S) Q ↔ ok (a η S) (kSet i η Q) := id (ok_m fun p => Iff.rfl)
@[simp ↓] theorem k_Setd {i : Nat} {Q : QS} {d : D} : kSet i η Q (.dat d, S) ↔ Q (.next, η.set i (some (.dat d)), S) := id Iff.rfl
@[simp ↓] theorem k_Setn {i : Nat} {Q : QS} {ds : List D} : kSet i η Q (.new ds, S) ↔ Q (.next, η.set i (some (.dat (.list ds))), S) := id Iff.rfl
@[simp ↓] theorem k_Seth {i : Nat} {Q : QS} {n : Nat} : kSet i η Q (.hd n, S) ↔ Q (.next, η.set i (some (.hd n)), S) := id Iff.rfl
@[simp ↓] theorem k_Setf {i : Nat} {Q : QS} {ds : List D} : kSet i η Q (.frz ds, S) ↔ Q (.next, η.set i (some (.frz ds)), S) := id Iff.rfl
def kCell (i : Nat) (η : Env) (Q : QS) : QE := fun p => match p.1 with
  | .new ds => Q (.next, η.set i (some (.hd p.2.length)), p.2 ++ [ds])
  | .hd n => Q (.next, η.set i (some (.hd n)), p.2)
  | _ => False
@[simp ↓] theorem w_cell {i : Nat} {Q : QS} : ok (mCell i a η S) Q ↔ ok (a η S) (kCell i η Q) := id (ok_b fun p => by
  unfold kCell
  cases p.1 <;> simp)
@[simp ↓] theorem k_Celln {i : Nat} {Q : QS} {ds : List D} : kCell i η Q (.new ds, S) ↔ Q (.next, η.set i (some (.hd S.length)), S ++ [ds]) := id Iff.rfl
@[simp ↓] theorem k_Cellh {i : Nat} {Q : QS} {n : Nat} : kCell i η Q (.hd n, S) ↔ Q (.next, η.set i (some (.hd n)), S) := id Iff.rfl
def kRet (η : Env) (Q : QS) : QE := fun p => Q (.ret p.1, η, p.2)
@[simp ↓] theorem w_ret {Q : QS} : ok (mRet a η S) Q ↔ ok (a η S) (kRet η Q) := id (ok_m fun p => Iff.rfl)
@[simp ↓] theorem k_Ret {Q : QS} : kRet η Q (w, S) ↔ Q (.ret w, η, S) := id Iff.rfl
def kEx (η : Env) (Q : QS) : QE := fun p => Q (.next, η, p.2)
@[simp ↓] theorem w_expr {Q : QS} : ok (mExpr a η S) Q ↔ ok (a η S) (kEx η Q) := id (ok_m fun p => Iff.rfl)
@[simp ↓] theorem k_Ex {Q : QS} : kEx η Q (w, S) ↔ Q (.next, η, S) := id Iff.rfl
@[simp ↓] theorem w_next {Q : QS} : ok (mNext η S) Q ↔ Q (.next, η, S) := id ok_some
@[simp ↓] theorem w_cont {Q : QS} : ok (mCont η S) Q ↔ Q (.cont, η, S) := id ok_some
@[simp ↓] theorem w_brk {Q : QS} : ok (mBrk η S) Q ↔ Q (.brk, η, S) := id ok_some
def kPar (ts : List (Nat × Bool)) (η : Env) (Q : QS) : QA := fun p => ok (parSet ts p.1 η p.2) fun q => Q (.next, q.1, q.2)
@[simp ↓] theorem w_par {ts : List (Nat × Bool)} {m : MA} {Q : QS} : ok (mPar ts m η S) Q ↔ ok (m η S) (kPar ts η Q) := id (ok_b fun p => (ok_ms fun w => Iff.rfl))
theorem k_Par {ts : List (Nat × Bool)} {Q : QS} {ws : List W} : kPar ts η Q (ws, S) ↔ ok (parSet ts ws η S) fun q => Q (.next, q.1, q.2) := id Iff.rfl
@[simp ↓] theorem k_Par0 {Q : QS} : kPar [] η Q ([], S) ↔ Q (.next, η, S) := id ok_some
@[simp ↓] theorem k_Pard {i : Nat} {ts : List (Nat × Bool)} {Q : QS} {ws : List W} {d : D} : kPar ((i, false) :: ts) η Q (.dat d :: ws, S) ↔ kPar ts (η.set i (some (.dat d))) Q (ws, S) := id Iff.rfl
@[simp ↓] theorem k_Parn {i : Nat} {ts : List (Nat × Bool)} {Q : QS} {ws : List W} {ds : List D} : kPar ((i, false) :: ts) η Q (.new ds :: ws, S) ↔ kPar ts (η.set i (some (.dat (.list ds)))) Q (ws, S) := id Iff.rfl
@[simp ↓] theorem k_Parh {i : Nat} {ts : List (Nat × Bool)} {Q : QS} {ws : List W} {n : Nat} : kPar ((i, false) :: ts) η Q (.hd n :: ws, S) ↔ kPar ts (η.set i (some (.hd n))) Q (ws, S) := id Iff.rfl
@[simp ↓] theorem k_Parc {i : Nat} {ts : List (Nat × Bool)} {Q : QS} {ws : List W} {ds : List D} : kPar ((i, true) :: ts) η Q (.new ds :: ws, S) ↔ kPar ts (η.set i (some (.hd S.length))) Q (ws, S ++ [ds]) := id Iff.rfl
def kAsg (b : BE) (η : Env) (Q : QS) : QE := fun p => ok (ditem p.1) fun d => ok (b d η) fun η' => Q (.next, η', p.2)
def kAsg2 (S : Sto) (Q : QS) : Env → Prop := fun η' => Q (.next, η', S)
@[simp ↓] theorem w_asg {b : BE} {Q : QS} : ok (mAsg b a η S) Q ↔ ok (a η S) (kAsg b η Q) := id (ok_b fun p => (ok_bs fun d => (ok_ms fun w => Iff.rfl)))
@[simp ↓] theorem k_Asgd {b : BE} {Q : QS} {d : D} : kAsg b η Q (.dat d, S) ↔ ok (b d η) (kAsg2 S Q) := id ok_some
@[simp ↓] theorem k_Asgn {b : BE} {Q : QS} {ds : List D} : kAsg b η Q (.new ds, S) ↔ ok (b (.list ds) η) (kAsg2 S Q) := id ok_some
@[simp ↓] theorem k_Asg2 {Q : QS} : kAsg2 S Q η ↔ Q (.next, η, S) := id Iff.rfl
@[simp ↓] theorem w_bName {k : Nat} {d : D} {Q : Env → Prop} : ok (bName k d η) Q ↔ Q (η.set k (some (.dat d))) := id ok_some
def kBs (bs : List D → Env → Option Env) (ds : List D) (Q : Env → Prop) : Env → Prop := fun η => ok (bs ds η) Q
@[simp ↓] theorem w_bNil {Q : Env → Prop} : ok (bNil [] η) Q ↔ Q η := id ok_some
@[simp ↓] theorem w_bCons {bb : BE} {bs : List D → Env → Option Env} {d : D} {ds : List D} {Q : Env → Prop} : ok (bCons bb bs (d :: ds) η) Q ↔ ok (bb d η) (kBs bs ds Q) := id (ok_b fun η' => Iff.rfl)
@[simp ↓] theorem k_Bs {bs : List D → Env → Option Env} {ds : List D} {Q : Env → Prop} : kBs bs ds Q η ↔ ok (bs ds η) Q := id Iff.rfl
@[simp ↓] theorem w_bTup {n : Nat} {bs : List D → Env → Option Env} {ds : List D} {Q : Env → Prop} : ok (bTup n bs (.tuple ds) η) Q ↔ ds.length = n ∧ ok (bs ds η) Q := id (by
  show ok (if _ then _ else _) Q ↔ _
  rw [ok_ite])
@[simp ↓] theorem w_bTupL {n : Nat} {bs : List D → Env → Option Env} {ds : List D} {Q : Env → Prop} : ok (bTup n bs (.list ds) η) Q ↔ ds.length = n ∧ ok (bs ds η) Q := id (by
  show ok (if _ then _ else _) Q ↔ _
  rw [ok_ite])
/-! stores -/
def kPut (mo mi : ME) (η : Env) (Q : QS) : QE := fun p => ok (ditem p.1) fun d => ok (mo η p.2) fun q => ok (mi η q.2) fun r => ok (match q.1, iview r.1 with
  | .hd n, some i => (r.2[n]?).bind fun ds => (ixN ds.length i).map fun j => (.next, η, r.2.set n (ds.set j d))
  | _, _ => none) Q
def kPut1 (d : D) (mi : ME) (η : Env) (Q : QS) : QE := fun q => ok (mi η q.2) fun r => ok (match q.1, iview r.1 with
  | .hd n, some i => (r.2[n]?).bind fun ds => (ixN ds.length i).map fun j => (.next, η, r.2.set n (ds.set j d))
  | _, _ => none) Q
def kPut2 (d : D) (w : W) (η : Env) (Q : QS) : QE := fun r => ok (match w, iview r.1 with
  | .hd n, some i => (r.2[n]?).bind fun ds => (ixN ds.length i).map fun j => (.next, η, r.2.set n (ds.set j d))
  | _, _ => none) Q
def kPut3 (d : D) (n : Nat) (i : Int) (S : Sto) (η : Env) (Q : QS) : Option (List D) → Prop := fun o => match o with
  | some ds => ok (ixN ds.length i) fun j => Q (.next, η, S.set n (ds.set j d))
  | none => False
def kPut4 (d : D) (n : Nat) (ds : List D) (S : Sto) (η : Env) (Q : QS) : Nat → Prop := fun j => Q (.next, η, S.set n (ds.set j d))
@[simp ↓] theorem w_put {me mo mi : ME} {Q : QS} : ok (mPut me mo mi η S) Q ↔ ok (me η S) (kPut mo mi η Q) := id (ok_b fun p => (ok_bs fun d => (ok_bs fun q => (ok_bs fun r => Iff.rfl))))
@[simp ↓] theorem k_Putd {mo mi : ME} {Q : QS} {d : D} : kPut mo mi η Q (.dat d, S) ↔ ok (mo η S) (kPut1 d mi η Q) := id ok_some
@[simp ↓] theorem k_Putn {mo mi : ME} {Q : QS} {ds : List D} : kPut mo mi η Q (.new ds, S) ↔ ok (mo η S) (kPut1 (.list ds) mi η Q) := id ok_some
@[simp ↓] theorem k_Put1 {mi : ME} {Q : QS} {d : D} : kPut1 d mi η Q (w, S) ↔ ok (mi η S) (kPut2 d w η Q) := id Iff.rfl
@[simp ↓] theorem k_Put2 {Q : QS} {d : D} {n : Nat} {i : Int} : kPut2 d (.hd n) η Q (.dat (.int i), S) ↔ kPut3 d n i S η Q S[n]? := by
  show ok ((S[n]?).bind _) Q ↔ _
  unfold kPut3
  cases S[n]? with
  | none => simp
  | some ds =>
    rw [Option.bind_some]
    exact ok_m fun j => Iff.rfl
@[simp] theorem k_Put3 {Q : QS} {d : D} {n : Nat} {i : Int} {ds : List D} : kPut3 d n i S η Q (some ds) ↔ ok (ixN ds.length i) (kPut4 d n ds S η Q) := id Iff.rfl
@[simp ↓] theorem k_Put4 {Q : QS} {d : D} {n j : Nat} {ds : List D} : kPut4 d n ds S η Q j ↔ Q (.next, η, S.set n (ds.set j d)) := id Iff.rfl
def kApp (me : ME) (η : Env) (Q : QE) : QE := fun p => ok (me η p.2) fun q => ok (ditem q.1) fun d => ok (match p.1 with
  | .hd n => (q.2[n]?).bind fun ds => if ds.length < sizeLine then some (.dat .none, q.2.set n (ds ++ [d])) else none
  | _ => none) Q
def kApp1 (w : W) (Q : QE) : QE := fun q => ok (ditem q.1) fun d => ok (match w with
  | .hd n => (q.2[n]?).bind fun ds => if ds.length < sizeLine then some (.dat .none, q.2.set n (ds ++ [d])) else none
  | _ => none) Q
def kApp2 (n : Nat) (d : D) (S : Sto) (Q : QE) : Option (List D) → Prop := fun o => match o with
  | some ds => ds.length < sizeLine ∧ Q (.dat .none, S.set n (ds ++ [d]))
  | none => False
@[simp ↓] theorem w_app {mo me : ME} : ok (mApp mo me η S) Q ↔ ok (mo η S) (kApp me η Q) := id (ok_b fun p => (ok_bs fun q => (ok_bs fun d => Iff.rfl)))
@[simp ↓] theorem k_App {me : ME} : kApp me η Q (w, S) ↔ ok (me η S) (kApp1 w Q) := id Iff.rfl
theorem k_App1 {n : Nat} {u : W} {d : D} (h : ditem u = some d) : kApp1 (.hd n) Q (u, S) ↔ kApp2 n d S Q S[n]? := by
  show ok (ditem u) (fun d => ok ((S[n]?).bind _) Q) ↔ _
  rw [h, ok_some]
  unfold kApp2
  cases S[n]? with
  | none => simp
  | some ds => rw [Option.bind_some, ok_ite, ok_some]
@[simp ↓] theorem k_App1d {n : Nat} {d : D} : kApp1 (.hd n) Q (.dat d, S) ↔ kApp2 n d S Q S[n]? := id (k_App1 rfl)
@[simp ↓] theorem k_App1n {n : Nat} {ds : List D} : kApp1 (.hd n) Q (.new ds, S) ↔ kApp2 n (.list ds) S Q S[n]? := id (k_App1 rfl)
@[simp] theorem k_App2 {n : Nat} {d : D} {ds : List D} : kApp2 n d S Q (some ds) ↔ ds.length < sizeLine ∧ Q (.dat .none, S.set n (ds ++ [d])) := id Iff.rfl
/-! isinstance, written dicts, methods, join -/
def kIsi (ns : List String) (Q : QE) : QE := fun p => ok (isiW ns p.1) fun b => Q (.dat (.bool b), p.2)
@[simp ↓] theorem w_isi {ns : List String} : ok (mIsi ns a η S) Q ↔ ok (a η S) (kIsi ns Q) := id (ok_b fun p => (ok_ms fun w => Iff.rfl))
theorem k_Isi {ns : List String} {t : String} (h : tyW w = some t) : kIsi ns Q (w, S) ↔ Q (.dat (.bool (ns.any fun n => isB t n)), S) := by
  unfold kIsi isiW
  dsimp only
  rw [h]
  exact ok_some
@[simp ↓] theorem k_IsiN {ns : List String} : kIsi ns Q (.dat .none, S) ↔ Q (.dat (.bool (ns.any fun n => isB "NoneType" n)), S) := id (k_Isi rfl)
@[simp ↓] theorem k_IsiB {ns : List String} {c : Bool} : kIsi ns Q (.dat (.bool c), S) ↔ Q (.dat (.bool (ns.any fun n => isB "bool" n)), S) := id (k_Isi rfl)
@[simp ↓] theorem k_IsiI {ns : List String} {i : Int} : kIsi ns Q (.dat (.int i), S) ↔ Q (.dat (.bool (ns.any fun n => isB "int" n)), S) := id (k_Isi rfl)
@[simp ↓] theorem k_IsiS {ns : List String} {x : Str} : kIsi ns Q (.dat (.str x), S) ↔ Q (.dat (.bool (ns.any fun n => isB "str" n)), S) := id (k_Isi rfl)
@[simp ↓] theorem k_IsiL {ns : List String} {ds : List D} : kIsi ns Q (.dat (.list ds), S) ↔ Q (.dat (.bool (ns.any fun n => isB "list" n)), S) := id (k_Isi rfl)
@[simp ↓] theorem k_IsiT {ns : List String} {ds : List D} : kIsi ns Q (.dat (.tuple ds), S) ↔ Q (.dat (.bool (ns.any fun n => isB "tuple" n)), S) := id (k_Isi rfl)
@[simp ↓] theorem k_IsiC {ns : List String} {n : Nat} : kIsi ns Q (.hd n, S) ↔ Q (.dat (.bool (ns.any fun n => isB "list" n)), S) := id (k_Isi rfl)
@[simp ↓] theorem k_IsiW {ns : List String} {ds : List D} : kIsi ns Q (.new ds, S) ↔ Q (.dat (.bool (ns.any fun n => isB "list" n)), S) := id (k_Isi rfl)
@[simp ↓] theorem k_IsiF {ns : List String} {ds : List D} : kIsi ns Q (.frz ds, S) ↔ Q (.dat (.bool (ns.any fun n => isB "list" n)), S) := id (k_Isi rfl)
def kKd (ps : List (Str × D)) (Q : QE) : QE := fun p => ok (strview p.1) fun z => ok (ps.lookup z) fun x => Q (.dat x, p.2)
def kKd1 (S : Sto) (Q : QE) : D → Prop := fun x => Q (.dat x, S)
@[simp ↓] theorem w_kd {ps : List (Str × D)} : ok (mKd ps a η S) Q ↔ ok (a η S) (kKd ps Q) := id (ok_b fun p => (ok_bs fun z => (ok_ms fun x => Iff.rfl)))
@[simp ↓] theorem k_Kd {ps : List (Str × D)} {z : Str} : kKd ps Q (.dat (.str z), S) ↔ ok (ps.lookup z) (kKd1 S Q) := id ok_some
@[simp ↓] theorem k_Kd1 {d : D} : kKd1 S Q d ↔ Q (.dat d, S) := id Iff.rfl
def kMe (g : W → Bool) (f : F2) (b : ME) (η : Env) (Q : QE) : QE := fun p => g p.1 = true ∧ ok (b η p.2) (kO2 f p.1 Q)
@[simp ↓] theorem w_meth1 {g : W → Bool} : ok (mMeth1 g f a b η S) Q ↔ ok (a η S) (kMe g f b η Q) := id (ok_b fun p => by
  unfold kMe
  rw [ok_ite]
  exact and_congr_right fun _ => (ok_bs fun q => (ok_ms fun w => Iff.rfl)))
@[simp ↓] theorem k_Me {g : W → Bool} : kMe g f b η Q (w, S) ↔ g w = true ∧ ok (b η S) (kO2 f w Q) := id Iff.rfl
def kJoin (b : ME) (η : Env) (Q : QE) : QE := fun p => ok (strview p.1) fun _ => ok (b η p.2) (kO2 fJoin p.1 Q)
@[simp ↓] theorem w_join : ok (mJoin a b η S) Q ↔ ok (a η S) (kJoin b η Q) := id (ok_b fun p => (ok_bs fun x => (ok_bs fun q => (ok_ms fun w => Iff.rfl))))
@[simp ↓] theorem k_Join {x : Str} : kJoin b η Q (.dat (.str x), S) ↔ ok (b η S) (kO2 fJoin (.dat (.str x)) Q) := id ok_some
/-! what is walked -/
def kWk (Q : QI) : QE := fun p => ok (walked p.2 p.1) fun q => Q (q.1, q.2, p.2)
@[simp ↓] theorem w_walk {Q : QI} : ok (mWalk a η S) Q ↔ ok (a η S) (kWk Q) := id (ok_b fun p => ok_ms fun q => Iff.rfl)
@[simp ↓] theorem k_Wkt {Q : QI} {ds : List D} : kWk Q (.dat (.tuple ds), S) ↔ Q (ds, none, S) := id ok_some
@[simp ↓] theorem k_Wkl {Q : QI} {ds : List D} : kWk Q (.dat (.list ds), S) ↔ Q (ds, none, S) := id ok_some
@[simp ↓] theorem k_Wkn {Q : QI} {ds : List D} : kWk Q (.new ds, S) ↔ Q (ds, none, S) := id ok_some
@[simp ↓] theorem k_Wkf {Q : QI} {ds : List D} : kWk Q (.frz ds, S) ↔ Q (ds, none, S) := id ok_some
def kWkh (Q : QI) (n : Nat) (S : Sto) : Option (List D) → Prop := fun o => match o with | some ds => Q (ds, some (n, ds), S) | none => False
@[simp ↓] theorem k_Wkh {Q : QI} {n : Nat} : kWk Q (.hd n, S) ↔ kWkh Q n S S[n]? := by
  show ok (S[n]?.map fun ds => (ds, some (n, ds))) (fun q : List D × Gd => Q (q.1, q.2, S)) ↔ _
  unfold kWkh
  cases S[n]? with
  | none => simp
  | some ds => simp
@[simp] theorem k_Wkhs {Q : QI} {n : Nat} {ds : List D} : kWkh Q n S (some ds) ↔ Q (ds, some (n, ds), S) := id Iff.rfl
def kRg1 (Q : QI) : QA := fun p => ok (match p.1 with
  | [w] => (iview w).bind fun j => if -(2 ^ 62) ≤ j ∧ j < 2 ^ 62 then some (intsR 0 j.toNat, none, p.2) else none
  | _ => none) Q
@[simp ↓] theorem w_range1 {m : MA} {Q : QI} : ok (mRange1 m η S) Q ↔ ok (m η S) (kRg1 Q) := id (ok_b fun p => Iff.rfl)
@[simp ↓] theorem k_Rg1 {Q : QI} {j : Int} : kRg1 Q ([.dat (.int j)], S) ↔ (-(2 ^ 62) ≤ j ∧ j < 2 ^ 62) ∧ Q (intsR 0 j.toNat, none, S) := by
  show ok (if _ then _ else _) Q ↔ _
  rw [ok_ite, ok_some]
def kRg2 (Q : QI) : QA := fun p => ok (match p.1 with
  | [w, u] => (iview w).bind fun i => (iview u).bind fun j => if -(2 ^ 62) ≤ i ∧ i < 2 ^ 62 ∧ -(2 ^ 62) ≤ j ∧ j < 2 ^ 62 then some (intsR i (j - i).toNat, none, p.2) else none
  | _ => none) Q
@[simp ↓] theorem w_range2 {m : MA} {Q : QI} : ok (mRange2 m η S) Q ↔ ok (m η S) (kRg2 Q) := id (ok_b fun p => Iff.rfl)
@[simp ↓] theorem k_Rg2 {Q : QI} {i j : Int} : kRg2 Q ([.dat (.int i), .dat (.int j)], S) ↔ (-(2 ^ 62) ≤ i ∧ i < 2 ^ 62 ∧ -(2 ^ 62) ≤ j ∧ j < 2 ^ 62) ∧ Q (intsR i (j - i).toNat, none, S) := by
  show ok (if _ then _ else _) Q ↔ _
  rw [ok_ite, ok_some]
def kEn (Q : QI) : QE := fun p => ok (byValT p.1) fun ds => Q (enumD 0 ds, none, p.2)
@[simp ↓] theorem w_enum {Q : QI} : ok (mEnum a η S) Q ↔ ok (a η S) (kEn Q) := id (ok_b fun p => (ok_ms fun q => Iff.rfl))
@[simp ↓] theorem k_Enl {Q : QI} {ds : List D} : kEn Q (.dat (.list ds), S) ↔ Q (enumD 0 ds, none, S) := id ok_some
@[simp ↓] theorem k_Ent {Q : QI} {ds : List D} : kEn Q (.dat (.tuple ds), S) ↔ Q (enumD 0 ds, none, S) := id ok_some
@[simp ↓] theorem k_Enn {Q : QI} {ds : List D} : kEn Q (.new ds, S) ↔ Q (enumD 0 ds, none, S) := id ok_some
def kZip (Q : QI) : QA := fun p => ok (match p.1 with
  | [w, u] => match srcW p.2 w, srcW p.2 u, tview w, tview u with
    | some (a, none), some (b, g), _, _ => some (zipD a b, g, p.2)
    | some (a, g), some (b, none), _, _ => some (zipD a b, g, p.2)
    | _, _, some a, some b => some (zipD a b, none, p.2)
    | _, _, _, _ => none
  | _ => none) Q
@[simp ↓] theorem w_zip {m : MA} {Q : QI} : ok (mZip m η S) Q ↔ ok (m η S) (kZip Q) := id (ok_b fun p => Iff.rfl)
@[simp ↓] theorem k_Ziptt {Q : QI} {a b : List D} : kZip Q ([.dat (.tuple a), .dat (.tuple b)], S) ↔ Q (zipD a b, none, S) := id ok_some
@[simp ↓] theorem k_Zipll {Q : QI} {a b : List D} : kZip Q ([.dat (.list a), .dat (.list b)], S) ↔ Q (zipD a b, none, S) := id ok_some
@[simp ↓] theorem k_Zipnl {Q : QI} {a b : List D} : kZip Q ([.new a, .dat (.list b)], S) ↔ Q (zipD a b, none, S) := id ok_some
@[simp ↓] theorem k_Zipln {Q : QI} {a b : List D} : kZip Q ([.dat (.list a), .new b], S) ↔ Q (zipD a b, none, S) := id ok_some
@[simp ↓] theorem k_Zipnn {Q : QI} {a b : List D} : kZip Q ([.new a, .new b], S) ↔ Q (zipD a b, none, S) := id ok_some
def kZh (Q : QI) (f : List D → List D) (n : Nat) (S : Sto) : Option (List D) → Prop := fun o => match o with | some ds => Q (f ds, some (n, ds), S) | none => False
@[simp] theorem k_Zh {Q : QI} {f : List D → List D} {n : Nat} {ds : List D} : kZh Q f n S (some ds) ↔ Q (f ds, some (n, ds), S) := id Iff.rfl
@[simp ↓] theorem k_Ziphl {Q : QI} {n : Nat} {b : List D} : kZip Q ([.hd n, .dat (.list b)], S) ↔ kZh Q (fun a => zipD a b) n S S[n]? := by
  unfold kZip kZh
  dsimp only
  simp only [srcW]
  cases S[n]? with
  | none => exact ⟨fun ⟨_, e, _⟩ => (by cases e), False.elim⟩
  | some ds => simp
@[simp ↓] theorem k_Ziplh {Q : QI} {n : Nat} {a : List D} : kZip Q ([.dat (.list a), .hd n], S) ↔ kZh Q (fun b => zipD a b) n S S[n]? := by
  unfold kZip kZh
  dsimp only
  simp only [srcW]
  cases S[n]? with
  | none => exact ⟨fun ⟨_, e, _⟩ => (by cases e), False.elim⟩
  | some ds => simp
/-! defs -/
def kBody (n : Nat) (Q : QE) : QS := fun p => ok (match p.1 with
  | .ret w => (closeW n p.2.2 w).map fun w' => (w', p.2.2.take n)
  | .next => some (.dat .none, p.2.2.take n)
  | _ => none) Q
theorem w_body {n : Nat} {m : MS} {ws : List W} : ok (bodyF n m ws S) Q ↔ ok (m (ws.map some ++ List.replicate (n - ws.length) none) S) (kBody S.length Q) := id (ok_b fun p => Iff.rfl)
@[simp ↓] theorem k_Bodyd {n : Nat} {d : D} : kBody n Q (.ret (.dat d), η, S) ↔ Q (.dat d, S.take n) := id ok_some
@[simp ↓] theorem k_Bodyn {n : Nat} {ds : List D} : kBody n Q (.ret (.new ds), η, S) ↔ Q (.new ds, S.take n) := id ok_some
@[simp ↓] theorem k_BodyN {n : Nat} : kBody n Q (.next, η, S) ↔ Q (.dat .none, S.take n) := id ok_some
def kBodyh (n : Nat) (i : Nat) (S : Sto) (Q : QE) : Prop := if i < n then Q (.hd i, S.take n) else ok S[i]? fun ds => Q (.new ds, S.take n)
@[simp ↓] theorem k_Bodyh {n i : Nat} : kBody n Q (.ret (.hd i), η, S) ↔ kBodyh n i S Q := by
  show ok (Option.map _ (if _ then _ else _)) Q ↔ _
  unfold kBodyh
  split
  · exact ok_some
  · rw [ok_map, ok_map]
theorem k_bodyh {n : Nat} {ds : List D} {T : Sto} (h : S.length = n) : kBodyh n n (S ++ [ds] ++ T) Q ↔ Q (.new ds, S) := by
  subst h
  unfold kBodyh
  rw [if_neg (Nat.lt_irrefl _), List.append_assoc, List.getElem?_append_right (Nat.le_refl _), Nat.sub_self]
  show ok (some ds) _ ↔ _
  rw [ok_some, List.take_left]
end
end BV
set_option Elab.async false
set_option linter.all false
set_option maxRecDepth 100000
set_option maxHeartbeats 1000000
namespace BV
open PySem PySem.Spec PyProof.Rows L2
@[simp] theorem sz_eq : sizeLine = 16777216 := sizeLine_eq
/-! ### texts -/
theorem of_cps (s : String) : (Str.ofString s).cps = (s.toList.map Char.toNat).toArray := by
  unfold Str.ofString
  rw [cpsOfBytes_string]
theorem char_inj {a b : Char} (h : a.toNat = b.toNat) : a = b := Char.ext (UInt32.toNat_inj.mp h)
@[simp] theorem of_eq (a b : String) : (Str.ofString a = Str.ofString b) ↔ a = b := by
  constructor
  · intro h
    have h := congrArg (fun x : Str => x.cps.toList) h
    simp only [of_cps] at h
    have h : a.toList.map Char.toNat = b.toList.map Char.toNat := h
    have key : ∀ (l m : List Char), l.map Char.toNat = m.map Char.toNat → l = m := fun l => by
      induction l with
      | nil => intro m e; cases m with
        | nil => rfl
        | cons y m => cases e
      | cons x l ih => intro m e; cases m with
        | nil => cases e
        | cons y m =>
          rw [List.map_cons, List.map_cons] at e
          injection e with e1 e2
          rw [char_inj e1, ih m e2]
    exact String.toList_inj.mp (key _ _ h)
  · intro h; rw [h]
@[simp] theorem of_beq (a b : String) : (Str.ofString a == Str.ofString b) = decide (a = b) := by
  by_cases h : a = b
  · subst h; simp
  · have h' : Str.ofString a ≠ Str.ofString b := fun e => h ((of_eq a b).mp e)
    rw [decide_eq_false h]
    exact beq_false_of_ne h'
@[simp] theorem of_len (s : String) : (Str.ofString s).length = s.length := by
  unfold Str.length
  rw [of_cps]
  simp
  exact String.length_toList ..
@[simp] theorem strOk_of (s : String) : PyData.strOk (Str.ofString s) = true := by
  unfold PyData.strOk
  rw [of_cps]
  simp only [List.all_toArray, List.all_map, List.all_eq_true]
  intro c _
  have := c.valid
  simp only [UInt32.isValidChar, Nat.isValidChar] at this
  have h : c.toNat < 0x110000 := by show c.val.toNat < _; omega
  simpa using h
/-! ### data that can be compared: no dict, no deeper than n -/
def lay (n : Nat) (d : D) : Bool := PyData.canLay0 d && decide (PyData.depth d ≤ n)
section
variable {n : Nat} {d : D} {ds : List D}
@[simp] theorem lay_non : lay n .none = true := by simp [lay, PyData.canLay0, PyData.depth]
@[simp] theorem lay_bool {b : Bool} : lay n (.bool b) = true := by simp [lay, PyData.canLay0, PyData.depth]
@[simp] theorem lay_int {i : Int} : lay n (.int i) = true := by simp [lay, PyData.canLay0, PyData.depth]
@[simp] theorem lay_str {x : Str} : lay n (.str x) = PyData.strOk x := by simp [lay, PyData.canLay0, PyData.depth]
theorem lay_all : ∀ ds : List D, (PyData.canLayAll0 ds && decide (PyData.depthAll ds ≤ n)) = ds.all (lay n)
  | [] => by simp [PyData.canLayAll0, PyData.depthAll]
  | d :: ds => by
    rw [List.all_cons, ← lay_all ds, PyData.canLayAll0, PyData.depthAll]
    unfold lay
    generalize PyData.canLayAll0 ds = p
    generalize PyData.depthAll ds = q
    cases PyData.canLay0 d <;> cases p <;> simp [Nat.max_le]
@[simp] theorem lay_list : lay (n + 1) (.list ds) = ds.all (lay n) := by
  rw [← lay_all]; simp [lay, PyData.canLay0, PyData.depth]
@[simp] theorem lay_tuple : lay (n + 1) (.tuple ds) = ds.all (lay n) := by
  rw [← lay_all]; simp [lay, PyData.canLay0, PyData.depth]
theorem lay_mono {m : Nat} (h : lay n d = true) (hm : n ≤ m) : lay m d = true := by
  unfold lay at h ⊢
  simp only [Bool.and_eq_true, decide_eq_true_eq] at h ⊢
  exact ⟨h.1, by omega⟩
theorem shaped_lay : SeqAt.shaped d = lay 64 d := rfl
theorem lay_tl {ds : List D} (h : ds.all (lay n) = true) : lay (n + 1) (.list ds) = true ∧ lay (n + 1) (.tuple ds) = true := ⟨by rw [lay_list]; exact h, by rw [lay_tuple]; exact h⟩
end
/-! ### == -/
section
open PyData
variable {a b : Bool} {i j : Int} {x y : Str} {xs ys : List D} {d e : D}
@[simp] theorem q_nn : eqv .none .none = true := by simp [eqv]
@[simp] theorem q_bb : eqv (.bool a) (.bool b) = (a == b) := by simp [eqv]
@[simp] theorem q_ii : eqv (.int i) (.int j) = (i == j) := by simp [eqv]
@[simp] theorem q_bi : eqv (.bool a) (.int j) = ((if a then 1 else 0) == j) := by simp [eqv]
@[simp] theorem q_ib : eqv (.int i) (.bool b) = (i == (if b then 1 else 0)) := by simp [eqv]
@[simp] theorem q_ss : eqv (.str x) (.str y) = (x == y) := by simp [eqv]
@[simp] theorem q_ll : eqv (.list xs) (.list ys) = eqvAll xs ys := by simp [eqv]
@[simp] theorem q_tt : eqv (.tuple xs) (.tuple ys) = eqvAll xs ys := by simp [eqv]
@[simp] theorem q_0 : eqvAll [] [] = true := by simp [eqvAll]
@[simp] theorem q_c : eqvAll (d :: xs) (e :: ys) = (eqv d e && eqvAll xs ys) := by simp [eqvAll]
@[simp] theorem q_0c : eqvAll [] (e :: ys) = false := by simp [eqvAll]
@[simp] theorem q_c0 : eqvAll (d :: xs) [] = false := by simp [eqvAll]
@[simp] theorem q_ns : eqv .none (.str y) = false := by simp [eqv]
@[simp] theorem q_ni : eqv .none (.int j) = false := by simp [eqv]
@[simp] theorem q_nb : eqv .none (.bool b) = false := by simp [eqv]
@[simp] theorem q_nl : eqv .none (.list ys) = false := by simp [eqv]
@[simp] theorem q_nt : eqv .none (.tuple ys) = false := by simp [eqv]
@[simp] theorem q_sn : eqv (.str x) .none = false := by simp [eqv]
@[simp] theorem q_in : eqv (.int i) .none = false := by simp [eqv]
@[simp] theorem q_bn : eqv (.bool a) .none = false := by simp [eqv]
@[simp] theorem q_ln : eqv (.list xs) .none = false := by simp [eqv]
@[simp] theorem q_tn : eqv (.tuple xs) .none = false := by simp [eqv]
@[simp] theorem q_si : eqv (.str x) (.int j) = false := by simp [eqv]
@[simp] theorem q_sb : eqv (.str x) (.bool b) = false := by simp [eqv]
@[simp] theorem q_sl : eqv (.str x) (.list ys) = false := by simp [eqv]
@[simp] theorem q_st : eqv (.str x) (.tuple ys) = false := by simp [eqv]
@[simp] theorem q_is : eqv (.int i) (.str y) = false := by simp [eqv]
@[simp] theorem q_bs : eqv (.bool a) (.str y) = false := by simp [eqv]
@[simp] theorem q_ls : eqv (.list xs) (.str y) = false := by simp [eqv]
@[simp] theorem q_ts : eqv (.tuple xs) (.str y) = false := by simp [eqv]
@[simp] theorem q_il : eqv (.int i) (.list ys) = false := by simp [eqv]
@[simp] theorem q_it : eqv (.int i) (.tuple ys) = false := by simp [eqv]
@[simp] theorem q_li : eqv (.list xs) (.int j) = false := by simp [eqv]
@[simp] theorem q_ti : eqv (.tuple xs) (.int j) = false := by simp [eqv]
@[simp] theorem q_bl : eqv (.bool a) (.list ys) = false := by simp [eqv]
@[simp] theorem q_bt : eqv (.bool a) (.tuple ys) = false := by simp [eqv]
@[simp] theorem q_lb : eqv (.list xs) (.bool b) = false := by simp [eqv]
@[simp] theorem q_tb : eqv (.tuple xs) (.bool b) = false := by simp [eqv]
@[simp] theorem q_lt : eqv (.list xs) (.tuple ys) = false := by simp [eqv]
@[simp] theorem q_tl : eqv (.tuple xs) (.list ys) = false := by simp [eqv]
theorem eqv_lay {n : Nat} (h : lay n d = true) : eqv d d = true := by
  unfold lay at h
  simp only [Bool.and_eq_true] at h
  have key : (∀ d : D, canLay0 d = true → eqv d d = true) := by
    intro d
    refine PyData.rec (motive_1 := fun d => canLay0 d = true → eqv d d = true) (motive_2 := fun ds => canLayAll0 ds = true → eqvAll ds ds = true) (motive_3 := fun _ => True) (motive_4 := fun _ => True) ?_ ?_ ?_ ?_ ?_ ?_ ?_ ?_ ?_ ?_ ?_ ?_ d
    · simp
    · simp
    · simp
    · simp
    · intro xs ih hx; rw [q_ll]; exact ih (by simpa [canLay0] using hx)
    · intro xs ih hx; rw [q_tt]; exact ih (by simpa [canLay0] using hx)
    · intro xs ih hx; simp [canLay0] at hx
    · simp
    · intro d ds h1 h2 h3
      simp only [canLayAll0, Bool.and_eq_true] at h3
      rw [q_c, h1 h3.1, h2 h3.2]; rfl
    all_goals first | trivial | (intros; trivial)
  exact key d h.1
end
section
variable {S : Sto} {d e : D} {neg : Bool}
theorem f_eq (h1 : lay 64 d = true) (h2 : lay 64 e = true) : fEq neg S (.dat d) (.dat e) = some (.dat (.bool (if neg then !PyData.eqv d e else PyData.eqv d e))) := by
  unfold fEq
  show (if _ then _ else _) = _
  rw [if_pos ⟨by rw [shaped_lay]; exact h1, by rw [shaped_lay]; exact h2⟩]
theorem f_eqn {ds : List D} (h1 : lay 64 (.list ds) = true) (h2 : lay 64 e = true) : fEq neg S (.new ds) (.dat e) = some (.dat (.bool (if neg then !PyData.eqv (.list ds) e else PyData.eqv (.list ds) e))) := by
  unfold fEq
  show (if _ then _ else _) = _
  rw [if_pos ⟨by rw [shaped_lay]; exact h1, by rw [shaped_lay]; exact h2⟩]
theorem f_eqn' {ds : List D} (h1 : lay 64 (.list ds) = true) (h2 : lay 64 e = true) : fEq neg S (.dat e) (.new ds) = some (.dat (.bool (if neg then !PyData.eqv e (.list ds) else PyData.eqv e (.list ds)))) := by
  unfold fEq
  show (if _ then _ else _) = _
  rw [if_pos ⟨by rw [shaped_lay]; exact h2, by rw [shaped_lay]; exact h1⟩]
/-- == with what comes behind: its side conditions stand ahead -/
@[simp ↓] theorem w_eq {Q : W → Prop} : ok (fEq neg S (.dat d) (.dat e)) Q ↔ (lay 64 d = true ∧ lay 64 e = true) ∧ Q (.dat (.bool (if neg then !PyData.eqv d e else PyData.eqv d e))) := by
  constructor
  · rintro ⟨w, h, q⟩
    obtain ⟨x, y, h1, h2, h3, h4, h5⟩ := fEq_inv h
    cases h1
    cases h2
    subst h5
    exact ⟨⟨by rw [← shaped_lay]; exact h3, by rw [← shaped_lay]; exact h4⟩, q⟩
  · rintro ⟨⟨h1, h2⟩, q⟩
    exact ⟨_, f_eq h1 h2, q⟩
@[simp ↓] theorem w_eqn {ds : List D} {Q : W → Prop} : ok (fEq neg S (.new ds) (.dat e)) Q ↔ (lay 64 (.list ds) = true ∧ lay 64 e = true) ∧ Q (.dat (.bool (if neg then !PyData.eqv (.list ds) e else PyData.eqv (.list ds) e))) := by
  constructor
  · rintro ⟨w, h, q⟩
    obtain ⟨x, y, h1, h2, h3, h4, h5⟩ := fEq_inv h
    cases h1
    cases h2
    subst h5
    exact ⟨⟨by rw [← shaped_lay]; exact h3, by rw [← shaped_lay]; exact h4⟩, q⟩
  · rintro ⟨⟨h1, h2⟩, q⟩
    exact ⟨_, f_eqn h1 h2, q⟩
@[simp ↓] theorem w_eqnn {ds es : List D} {Q : W → Prop} : ok (fEq neg S (.new ds) (.new es)) Q ↔ (lay 64 (.list ds) = true ∧ lay 64 (.list es) = true) ∧ Q (.dat (.bool (if neg then !PyData.eqv (.list ds) (.list es) else PyData.eqv (.list ds) (.list es)))) := id (w_eq (S := S) (d := .list ds) (e := .list es))
@[simp ↓] theorem w_eqdn {es : List D} {Q : W → Prop} : ok (fEq neg S (.dat d) (.new es)) Q ↔ (lay 64 d = true ∧ lay 64 (.list es) = true) ∧ Q (.dat (.bool (if neg then !PyData.eqv d (.list es) else PyData.eqv d (.list es)))) := id (w_eq (S := S) (d := d) (e := .list es))
end
theorem lay64t {ds : List D} : lay 64 (.tuple ds) = ds.all (lay 63) := lay_tuple
theorem lay64l {ds : List D} : lay 64 (.list ds) = ds.all (lay 63) := lay_list
/-- layers of written depth -/
@[simp] theorem lay_t64 {ds : List D} : lay 64 (.tuple ds) = ds.all (lay 63) := lay_tuple
@[simp] theorem lay_l64 {ds : List D} : lay 64 (.list ds) = ds.all (lay 63) := lay_list
@[simp] theorem lay_t63 {ds : List D} : lay 63 (.tuple ds) = ds.all (lay 62) := lay_tuple
@[simp] theorem lay_l63 {ds : List D} : lay 63 (.list ds) = ds.all (lay 62) := lay_list
@[simp] theorem lay_t62 {ds : List D} : lay 62 (.tuple ds) = ds.all (lay 61) := lay_tuple
@[simp] theorem lay_l62 {ds : List D} : lay 62 (.list ds) = ds.all (lay 61) := lay_list
@[simp] theorem lay_t61 {ds : List D} : lay 61 (.tuple ds) = ds.all (lay 60) := lay_tuple
@[simp] theorem lay_l61 {ds : List D} : lay 61 (.list ds) = ds.all (lay 60) := lay_list
@[simp] theorem lay_t60 {ds : List D} : lay 60 (.tuple ds) = ds.all (lay 59) := lay_tuple
@[simp] theorem lay_l60 {ds : List D} : lay 60 (.list ds) = ds.all (lay 59) := lay_list
/-! ### in -/
section
variable {S : Sto} {d : D} {neg : Bool} {ds : List D}
theorem ok_if {α : Type} {c : Prop} [Decidable c] {a : α} {Q : α → Prop} : ok (if c then some a else none) Q ↔ c ∧ Q a := by rw [ok_ite, ok_some]
@[simp ↓] theorem w_inL {Q : W → Prop} : ok (fIn neg S (.dat d) (.dat (.list ds))) Q ↔ (lay 64 d = true ∧ lay 64 (.list ds) = true) ∧ Q (.dat (.bool (if neg then !ds.any (fun z => PyData.eqv z d) else ds.any fun z => PyData.eqv z d))) := id ok_if
@[simp ↓] theorem w_inN {Q : W → Prop} : ok (fIn neg S (.dat d) (.new ds)) Q ↔ (lay 64 d = true ∧ lay 64 (.list ds) = true) ∧ Q (.dat (.bool (if neg then !ds.any (fun z => PyData.eqv z d) else ds.any fun z => PyData.eqv z d))) := id ok_if
@[simp ↓] theorem w_inT {Q : W → Prop} : ok (fIn neg S (.dat d) (.dat (.tuple ds))) Q ↔ ((isFlat d = true ∧ ds.all isFlat = true) ∨ (lay 64 d = true ∧ lay 64 (.tuple ds) = true)) ∧ Q (.dat (.bool (if neg then !ds.any (fun z => PyData.eqv z d) else ds.any fun z => PyData.eqv z d))) := id ok_if
def kInh (neg : Bool) (d : D) (Q : W → Prop) : Option (List D) → Prop := fun o => match o with
  | some ds => (lay 64 d = true ∧ lay 64 (.list ds) = true) ∧ Q (.dat (.bool (if neg then !ds.any (fun z => PyData.eqv z d) else ds.any fun z => PyData.eqv z d)))
  | none => False
@[simp ↓] theorem w_inH {n : Nat} {Q : W → Prop} : ok (fIn neg S (.dat d) (.hd n)) Q ↔ kInh neg d Q S[n]? := by
  unfold kInh fIn dview
  dsimp only
  cases S[n]? with
  | none => exact ok_none
  | some ds => exact ok_if
@[simp] theorem k_Inh {Q : W → Prop} : kInh neg d Q (some ds) ↔ (lay 64 d = true ∧ lay 64 (.list ds) = true) ∧ Q (.dat (.bool (if neg then !ds.any (fun z => PyData.eqv z d) else ds.any fun z => PyData.eqv z d))) := id Iff.rfl
@[simp] theorem flat_n : isFlat .none = true := id rfl
@[simp] theorem flat_b {b : Bool} : isFlat (.bool b) = true := id rfl
@[simp] theorem flat_i {i : Int} : isFlat (.int i) = true := id rfl
@[simp] theorem flat_s {x : Str} : isFlat (.str x) = true := id rfl
@[simp] theorem flat_l {xs : List D} : isFlat (.list xs) = false := id rfl
@[simp] theorem flat_t {xs : List D} : isFlat (.tuple xs) = false := id rfl
end
/-! ### numbers -/
section
variable {S : Sto} {i j : Int} {x y : Str} {ds es : List D} {d : D} {n : Nat} {b : Bool} {w : W} {Q : W → Prop}
@[simp] theorem v_addI : fAdd S (.dat (.int i)) (.dat (.int j)) = some (.dat (.int (i + j))) := id rfl
@[simp] theorem v_subI : fSub S (.dat (.int i)) (.dat (.int j)) = some (.dat (.int (i - j))) := id rfl
@[simp] theorem v_ltI : fLt S (.dat (.int i)) (.dat (.int j)) = some (.dat (.bool (decide (i < j)))) := id rfl
@[simp] theorem v_leI : fLe S (.dat (.int i)) (.dat (.int j)) = some (.dat (.bool (decide (i ≤ j)))) := id rfl
@[simp] theorem v_gtI : fGt S (.dat (.int i)) (.dat (.int j)) = some (.dat (.bool (decide (j < i)))) := id rfl
@[simp] theorem v_geI : fGe S (.dat (.int i)) (.dat (.int j)) = some (.dat (.bool (decide (j ≤ i)))) := id rfl
@[simp] theorem v_neg : fNeg (.dat (.int i)) = some (.dat (.int (-i))) := id rfl
theorem v_mulI (h : cMul i j = true) : fMul S (.dat (.int i)) (.dat (.int j)) = some (.dat (.int (i * j))) := by
  unfold fMul orF f2I
  simp only [iview, h, if_true]
@[simp ↓] theorem w_mulI : ok (fMul S (.dat (.int i)) (.dat (.int j))) Q ↔ ((-18446744073709551616 < i ∧ i < 18446744073709551616) ∨ (-18446744073709551616 < j ∧ j < 18446744073709551616)) ∧ Q (.dat (.int (i * j))) := by
  by_cases h : cMul i j = true
  · rw [v_mulI h, ok_some]
    exact ⟨fun q => ⟨of_decide_eq_true h, q⟩, fun q => q.2⟩
  · constructor
    · rintro ⟨w, e, q⟩
      exfalso
      have : fMul S (.dat (.int i)) (.dat (.int j)) = none := by
        unfold fMul orF f2I
        simp only [iview, h]
        rfl
      rw [this] at e
      cases e
    · rintro ⟨h', q⟩
      exact absurd (decide_eq_true h') h
@[simp ↓] theorem w_divI : ok (fDiv S (.dat (.int i)) (.dat (.int j))) Q ↔ (0 < j ∧ j < 18446744073709551616) ∧ Q (.dat (.int (i / j))) := by
  show ok (if cDiv i j = true then some (W.dat (.int (i / j))) else none) Q ↔ _
  rw [ok_if]
  unfold cDiv
  rw [decide_eq_true_eq]
  exact and_congr_left fun _ => ⟨fun h => ⟨h.1, by omega⟩, fun h => ⟨h.1, by omega⟩⟩
@[simp ↓] theorem w_modI : ok (fMod S (.dat (.int i)) (.dat (.int j))) Q ↔ (0 < j) ∧ Q (.dat (.int (i % j))) := by
  show ok (if decide (0 < j) = true then some (W.dat (.int (i % j))) else none) Q ↔ _
  rw [ok_if, decide_eq_true_eq]
@[simp ↓] theorem w_powI : ok (fPow S (.dat (.int i)) (.dat (.int j))) Q ↔ (0 ≤ j ∧ j ≤ 1000000 ∧ i.natAbs < 18446744073709551616) ∧ Q (.dat (.int (i ^ j.toNat))) := by
  show ok (if cPow i j = true then some (W.dat (.int (i ^ j.toNat))) else none) Q ↔ _
  rw [ok_if]
  unfold cPow
  rw [decide_eq_true_eq]
@[simp] theorem v_abs : fAbs S [.dat (.int i)] = some (.dat (.int (if i < 0 then -i else i))) := id rfl
@[simp] theorem v_min : fMin S [.dat (.int i), .dat (.int j)] = some (.dat (.int (if j < i then j else i))) := id rfl
@[simp] theorem v_max : fMax S [.dat (.int i), .dat (.int j)] = some (.dat (.int (if j > i then j else i))) := id rfl
@[simp] theorem v_int1 : fInt S [.dat (.int i)] = some (.dat (.int i)) := id rfl
@[simp] theorem v_int2 : fInt S [.dat (.bool b)] = some (.dat (.int (if b then 1 else 0))) := id rfl
@[simp] theorem v_isN1 {neg : Bool} : fIsN neg S (.dat .none) (.dat .none) = some (.dat (.bool !neg)) := by cases neg <;> rfl
@[simp] theorem v_isN2 {neg : Bool} : fIsN neg S (.dat (.int i)) (.dat .none) = some (.dat (.bool neg)) := by cases neg <;> rfl
@[simp] theorem v_isN3 {neg : Bool} : fIsN neg S (.dat (.tuple ds)) (.dat .none) = some (.dat (.bool neg)) := by cases neg <;> rfl
@[simp] theorem v_isN4 {neg : Bool} : fIsN neg S (.dat (.list ds)) (.dat .none) = some (.dat (.bool neg)) := by cases neg <;> rfl
@[simp] theorem v_isN5 {neg : Bool} : fIsN neg S (.dat (.str x)) (.dat .none) = some (.dat (.bool neg)) := by cases neg <;> rfl
@[simp] theorem v_isN6 {neg : Bool} : fIsN neg S (.dat (.bool b)) (.dat .none) = some (.dat (.bool neg)) := by cases neg <;> rfl
@[simp] theorem v_isN7 {neg : Bool} : fIsN neg S (.new ds) (.dat .none) = some (.dat (.bool neg)) := by cases neg <;> rfl
@[simp] theorem v_isN8 {neg : Bool} : fIsN neg S (.hd n) (.dat .none) = some (.dat (.bool neg)) := by cases neg <;> rfl
/-! items -/
def kM (f : D → W) (Q : W → Prop) : D → Prop := fun d => Q (f d)
def kIx (i : Int) (Q : W → Prop) : Option (List D) → Prop := fun o => match o with | some ds => ok (atI ds i) (kM .dat Q) | none => False
@[simp ↓] theorem k_M {f : D → W} : kM f Q d ↔ Q (f d) := id Iff.rfl
@[simp ↓] theorem w_ixT : ok (fIx S (.dat (.tuple ds)) (.dat (.int i))) Q ↔ ok (atI ds i) (kM .dat Q) := id (ok_m fun _ => Iff.rfl)
@[simp ↓] theorem w_ixL : ok (fIx S (.dat (.list ds)) (.dat (.int i))) Q ↔ ok (atI ds i) (kM .dat Q) := id (ok_m fun _ => Iff.rfl)
@[simp ↓] theorem w_ixN : ok (fIx S (.new ds) (.dat (.int i))) Q ↔ ok (atI ds i) (kM .dat Q) := id (ok_m fun _ => Iff.rfl)
@[simp ↓] theorem w_ixF : ok (fIx S (.frz ds) (.dat (.int i))) Q ↔ ok (atI ds i) (kM .dat Q) := id (ok_m fun _ => Iff.rfl)
@[simp ↓] theorem w_ixH : ok (fIx S (.hd n) (.dat (.int i))) Q ↔ kIx i Q S[n]? := by
  show ok (match S[n]?, some i with | some x, some i => (atI x i).map .dat | _, _ => none) Q ↔ _
  unfold kIx
  cases S[n]? with
  | none => exact ok_none
  | some x => exact ok_m fun _ => Iff.rfl
@[simp] theorem k_Ix : kIx i Q (some ds) ↔ ok (atI ds i) (kM .dat Q) := id Iff.rfl
@[simp] theorem i_0 : atI (d :: ds) 0 = some d := atI_nat (j := 0) rfl
@[simp] theorem i_1 {d1 : D} : atI (d :: d1 :: ds) 1 = some d1 := atI_nat (j := 1) rfl
@[simp] theorem i_2 {d1 d2 : D} : atI (d :: d1 :: d2 :: ds) 2 = some d2 := atI_nat (j := 2) rfl
@[simp] theorem i_3 {d1 d2 d3 : D} : atI (d :: d1 :: d2 :: d3 :: ds) 3 = some d3 := atI_nat (j := 3) rfl
theorem at_nat {α : Type} {xs : List α} {j : Nat} : atI xs (j : Int) = xs[j]? := by
  cases h : xs[j]? with
  | some v => exact atI_nat h
  | none =>
    unfold atI ixN
    have h1 : xs.length ≤ j := List.getElem?_eq_none_iff.mp h
    rw [if_pos (by omega), if_neg (by omega)]
    rfl
@[simp] theorem n_0 : ixN (n + 1) 0 = some 0 := by unfold ixN; simp
@[simp] theorem n_1 : ixN (n + 2) 1 = some 1 := by unfold ixN; simp; omega
@[simp] theorem n_2 : ixN (n + 3) 2 = some 2 := by unfold ixN; simp; omega
/-! len, tuple, list, all, any, sum -/
@[simp] theorem v_lenT : fLen S [.dat (.tuple ds)] = some (.dat (.int ds.length)) := id rfl
@[simp] theorem v_lenL : fLen S [.dat (.list ds)] = some (.dat (.int ds.length)) := id rfl
@[simp] theorem v_lenN : fLen S [.new ds] = some (.dat (.int ds.length)) := id rfl
@[simp] theorem v_lenF : fLen S [.frz ds] = some (.dat (.int ds.length)) := id rfl
def kLen (Q : W → Prop) : Option (List D) → Prop := fun o => match o with | some ds => Q (.dat (.int ds.length)) | none => False
@[simp ↓] theorem w_lenH : ok (fLen S [.hd n]) Q ↔ kLen Q S[n]? := by
  show ok (match S[n]? with | some ds => some (W.dat (.int ds.length)) | none => none) Q ↔ _
  unfold kLen
  cases S[n]? with
  | none => exact ok_none
  | some x => exact ok_some
@[simp] theorem k_Len : kLen Q (some ds) ↔ Q (.dat (.int ds.length)) := id Iff.rfl
@[simp ↓] theorem w_lenS : ok (fLen S [.dat (.str x)]) Q ↔ x.length ≤ sizeLine ∧ Q (.dat (.int x.length)) := id ok_if
@[simp] theorem v_tupT : fTupOf S [.dat (.tuple ds)] = some (.dat (.tuple ds)) := id rfl
@[simp] theorem v_tupL : fTupOf S [.dat (.list ds)] = some (.dat (.tuple ds)) := id rfl
@[simp] theorem v_tupN : fTupOf S [.new ds] = some (.dat (.tuple ds)) := id rfl
@[simp] theorem v_lstT : fLstOf S [.dat (.tuple ds)] = some (.new ds) := id rfl
@[simp] theorem v_lstL : fLstOf S [.dat (.list ds)] = some (.new ds) := id rfl
@[simp] theorem v_lstN : fLstOf S [.new ds] = some (.new ds) := id rfl
def kTo (f : List D → W) (Q : W → Prop) : Option (List D) → Prop := fun o => match o with | some ds => Q (f ds) | none => False
@[simp] theorem k_To {f : List D → W} : kTo f Q (some ds) ↔ Q (f ds) := id Iff.rfl
@[simp ↓] theorem w_tupH : ok (fTupOf S [.hd n]) Q ↔ kTo (fun ds => .dat (.tuple ds)) Q S[n]? := by
  show ok ((S[n]?).map _) Q ↔ _
  unfold kTo
  cases S[n]? with
  | none => exact ok_none
  | some x => exact ok_some
@[simp ↓] theorem w_lstH : ok (fLstOf S [.hd n]) Q ↔ kTo .new Q S[n]? := by
  show ok ((S[n]?).map _) Q ↔ _
  unfold kTo
  cases S[n]? with
  | none => exact ok_none
  | some x => exact ok_some
@[simp ↓] theorem w_allN {g : List Bool → Bool} : ok (fAll g S [.new ds]) Q ↔ ok (bools ds) fun bs => Q (.dat (.bool (g bs))) := id (ok_m fun _ => Iff.rfl)
@[simp ↓] theorem w_allL {g : List Bool → Bool} : ok (fAll g S [.dat (.list ds)]) Q ↔ ok (bools ds) fun bs => Q (.dat (.bool (g bs))) := id (ok_m fun _ => Iff.rfl)
theorem bools_map {α : Type} (p : α → Bool) : ∀ l : List α, bools (l.map fun x => PyData.bool (p x)) = some (l.map p)
  | [] => rfl
  | x :: l => by rw [List.map_cons, bools, bools_map p l]; rfl
theorem intsD_map' {α : Type} (p : α → Int) : ∀ l : List α, intsD (l.map fun x => PyData.int (p x)) = some (l.map p)
  | [] => rfl
  | x :: l => by rw [List.map_cons, intsD, intsD_map' p l]; rfl
theorem strsD_map' {α : Type} (p : α → Str) : ∀ l : List α, strsD (l.map fun x => PyData.str (p x)) = some (l.map p)
  | [] => rfl
  | x :: l => by rw [List.map_cons, strsD, strsD_map' p l]; rfl
@[simp ↓] theorem w_sumN : ok (fSum S [.new ds]) Q ↔ ok (intsD ds) fun bs => Q (.dat (.int bs.sum)) := id (ok_m fun _ => Iff.rfl)
@[simp ↓] theorem w_sumL : ok (fSum S [.dat (.list ds)]) Q ↔ ok (intsD ds) fun bs => Q (.dat (.int bs.sum)) := id (ok_m fun _ => Iff.rfl)
@[simp] theorem v_gcd : fGcd S [.dat (.int i), .dat (.int j)] = some (.dat (.int ((Nat.gcd i.natAbs j.natAbs : Nat) : Int))) := id rfl
@[simp ↓] theorem w_divmod : ok (fDivmod S [.dat (.int i), .dat (.int j)]) Q ↔ (0 < j ∧ j < 1073741824) ∧ Q (.dat (.tuple [.int (i / j), .int (i % j)])) := id ok_if
@[simp ↓] theorem w_joinT : ok (fJoin S (.dat (.str x)) (.dat (.tuple ds))) Q ↔ ok (strsD ds) fun ys => ((ys.map (·.length)).sum + ys.length * x.length ≤ 16777216) ∧ Q (.dat (.str (Txt.join x ys))) := by
  unfold fJoin
  dsimp only [strview, seqview]
  cases strsD ds with
  | none => exact ⟨fun ⟨_, e, _⟩ => (by cases e), fun ⟨_, e, _⟩ => (by cases e)⟩
  | some ys => rw [ok_some]; exact ok_if
@[simp ↓] theorem w_joinL : ok (fJoin S (.dat (.str x)) (.dat (.list ds))) Q ↔ ok (strsD ds) fun ys => ((ys.map (·.length)).sum + ys.length * x.length ≤ 16777216) ∧ Q (.dat (.str (Txt.join x ys))) := id (w_joinT (S := S))
@[simp ↓] theorem w_joinN : ok (fJoin S (.dat (.str x)) (.new ds)) Q ↔ ok (strsD ds) fun ys => ((ys.map (·.length)).sum + ys.length * x.length ≤ 16777216) ∧ Q (.dat (.str (Txt.join x ys))) := id (w_joinT (S := S))
/-! lists and tuples put together, and so many times -/
theorem or_none {f g : F2} {a b : W} (h : f S a b = none) : orF f g S a b = g S a b := by unfold orF; rw [h]
theorem or_if {f g : F2} {a b : W} {c : Prop} [Decidable c] {w : W} (h : f S a b = if c then some w else none) (h' : g S a b = none) : ok (orF f g S a b) Q ↔ c ∧ Q w := by
  unfold orF
  rw [h, h']
  by_cases hc : c
  · rw [if_pos hc]
    exact ⟨fun z => ⟨hc, ok_some.mp z⟩, fun z => ok_some.mpr z.2⟩
  · rw [if_neg hc]
    exact ⟨fun z => (ok_none.mp z).elim, fun z => absurd z.1 hc⟩
@[simp ↓] theorem w_catTT : ok (fAdd S (.dat (.tuple ds)) (.dat (.tuple es))) Q ↔ (ds.length + es.length ≤ sizeLine) ∧ Q (.dat (.tuple (ds ++ es))) := by
  show ok (orF _ (orF fCatL (orF fCatT fCatS)) S _ _) Q ↔ _
  rw [or_none rfl, or_none rfl]
  exact or_if rfl rfl
theorem w_catLL {a b : W} (ha : lview S a = some ds) (hb : lview S b = some es) (hi : iview a = none) (ht : tview a = none) (hs : strview a = none) : ok (fAdd S a b) Q ↔ (ds.length + es.length ≤ sizeLine) ∧ Q (.new (ds ++ es)) := by
  show ok (orF (f2I (fun _ _ => true) fun i j => .int (i + j)) (orF fCatL (orF fCatT fCatS)) S a b) Q ↔ _
  rw [or_none (by unfold f2I; rw [hi])]
  refine or_if (f := fCatL) (by unfold fCatL; rw [ha, hb]) ?_
  rw [or_none (by unfold fCatT; rw [ht])]
  unfold fCatS
  rw [hs]
@[simp ↓] theorem w_catll : ok (fAdd S (.dat (.list ds)) (.dat (.list es))) Q ↔ (ds.length + es.length ≤ sizeLine) ∧ Q (.new (ds ++ es)) := w_catLL rfl rfl rfl rfl rfl
@[simp ↓] theorem w_catln : ok (fAdd S (.dat (.list ds)) (.new es)) Q ↔ (ds.length + es.length ≤ sizeLine) ∧ Q (.new (ds ++ es)) := w_catLL rfl rfl rfl rfl rfl
@[simp ↓] theorem w_catnl : ok (fAdd S (.new ds) (.dat (.list es))) Q ↔ (ds.length + es.length ≤ sizeLine) ∧ Q (.new (ds ++ es)) := w_catLL rfl rfl rfl rfl rfl
@[simp ↓] theorem w_catnn : ok (fAdd S (.new ds) (.new es)) Q ↔ (ds.length + es.length ≤ sizeLine) ∧ Q (.new (ds ++ es)) := w_catLL rfl rfl rfl rfl rfl
def kCatH (f : List D → W) (m : Nat) (Q : W → Prop) : Option (List D) → Prop := fun o => match o with | some ds => (ds.length + m ≤ sizeLine) ∧ Q (f ds) | none => False
@[simp] theorem k_CatH {f : List D → W} {m : Nat} : kCatH f m Q (some ds) ↔ (ds.length + m ≤ sizeLine) ∧ Q (f ds) := id Iff.rfl
theorem w_cath {b : W} (hb : lview S b = some es) : ok (fAdd S (.hd n) b) Q ↔ kCatH (fun ds => .new (ds ++ es)) es.length Q S[n]? := by
  cases h : S[n]? with
  | some x => rw [w_catLL (show lview S (.hd n) = some x from h) hb rfl rfl rfl]; exact Iff.rfl
  | none =>
    show ok (orF (f2I (fun _ _ => true) fun i j => .int (i + j)) (orF fCatL (orF fCatT fCatS)) S (.hd n) b) Q ↔ False
    have h2 : lview S (.hd n) = none := h
    rw [or_none (by unfold f2I; rfl), or_none (by unfold fCatL; rw [h2]), or_none (by unfold fCatT; rfl)]
    exact ⟨fun ⟨_, e, _⟩ => (by unfold fCatS at e; cases e), False.elim⟩
@[simp ↓] theorem w_cathl : ok (fAdd S (.hd n) (.dat (.list es))) Q ↔ kCatH (fun ds => .new (ds ++ es)) es.length Q S[n]? := w_cath rfl
@[simp ↓] theorem w_cathn : ok (fAdd S (.hd n) (.new es)) Q ↔ kCatH (fun ds => .new (ds ++ es)) es.length Q S[n]? := w_cath rfl
@[simp ↓] theorem w_catSS : ok (fAdd S (.dat (.str x)) (.dat (.str y))) Q ↔ (x.length + y.length ≤ sizeLine) ∧ Q (.dat (.str (x ++ y))) := by
  show ok (orF _ (orF fCatL (orF fCatT fCatS)) S _ _) Q ↔ _
  rw [or_none rfl, or_none rfl, or_none rfl]
  exact ok_if
theorem w_repL' {a : W} (ha : lview S a = some ds) (hi : iview a = none) (ht : tview a = none) : ok (fMul S a (.dat (.int i))) Q ↔ (-9223372036854775808 ≤ i ∧ i < 9223372036854775808 ∧ ds.length * i.toNat ≤ sizeLine) ∧ Q (.new (List.replicate i.toNat ds).flatten) := by
  show ok (orF (f2I cMul fun i j => .int (i * j)) (orF fRep fRepT) S a _) Q ↔ _
  rw [or_none (by unfold f2I; rw [hi])]
  refine or_if (f := fRep) (by unfold fRep; rw [ha]; rfl) ?_
  unfold fRepT
  rw [ht]
@[simp ↓] theorem w_repL : ok (fMul S (.dat (.list ds)) (.dat (.int i))) Q ↔ (-9223372036854775808 ≤ i ∧ i < 9223372036854775808 ∧ ds.length * i.toNat ≤ sizeLine) ∧ Q (.new (List.replicate i.toNat ds).flatten) := w_repL' rfl rfl rfl
@[simp ↓] theorem w_repN : ok (fMul S (.new ds) (.dat (.int i))) Q ↔ (-9223372036854775808 ≤ i ∧ i < 9223372036854775808 ∧ ds.length * i.toNat ≤ sizeLine) ∧ Q (.new (List.replicate i.toNat ds).flatten) := w_repL' rfl rfl rfl
@[simp ↓] theorem w_repT : ok (fMul S (.dat (.tuple ds)) (.dat (.int i))) Q ↔ (-1000000 ≤ i ∧ i ≤ 1000 ∧ ds.length ≤ 1000) ∧ Q (.dat (.tuple (List.replicate i.toNat ds).flatten)) := by
  show ok (orF _ (orF fRep fRepT) S _ _) Q ↔ _
  rw [or_none rfl, or_none rfl]
  exact ok_if
/-! slices -/
@[simp ↓] theorem w_slL {lo hi : Option Int} : ok (fSl (.dat (.list ds)) lo hi S) Q ↔ Q (.new (BV.cutD ds lo hi)) := id ok_some
@[simp ↓] theorem w_slN {lo hi : Option Int} : ok (fSl (.new ds) lo hi S) Q ↔ Q (.new (BV.cutD ds lo hi)) := id ok_some
@[simp ↓] theorem w_slF {lo hi : Option Int} : ok (fSl (.frz ds) lo hi S) Q ↔ Q (.new (BV.cutD ds lo hi)) := id ok_some
@[simp ↓] theorem w_slT {lo hi : Option Int} : ok (fSl (.dat (.tuple ds)) lo hi S) Q ↔ Q (.dat (.tuple (BV.cutD ds lo hi))) := id ok_some
@[simp ↓] theorem w_slS {lo hi : Option Int} : ok (fSl (.dat (.str x)) lo hi S) Q ↔ (x.length ≤ sizeLine) ∧ Q (.dat (.str (cutS x lo hi))) := id ok_if
@[simp ↓] theorem w_slH {lo hi : Option Int} : ok (fSl (.hd n) lo hi S) Q ↔ kTo (fun ds => .new (BV.cutD ds lo hi)) Q S[n]? := by
  show ok ((S[n]?).map _) Q ↔ _
  unfold kTo
  cases S[n]? with
  | none => exact ok_none
  | some z => exact ok_some
theorem sIx_nat {l d k : Nat} : HT.sIx l d (some (k : Int)) = min k l := HT.sIx_nat ..
theorem cut_all : BV.cutD ds none none = ds := by
  unfold BV.cutD
  rw [HT.sIx_none, HT.sIx_none]
  simp
theorem cut_from {k : Nat} : BV.cutD ds (some (k : Int)) none = ds.drop k := by
  unfold BV.cutD
  rw [HT.sIx_none, sIx_nat]
  rcases Nat.le_total k ds.length with h | h
  · rw [Nat.min_eq_left h]
    exact List.take_of_length_le (by rw [List.length_drop]; exact Nat.le_refl _)
  · rw [Nat.min_eq_right h, List.drop_of_length_le (Nat.le_refl _), List.drop_of_length_le h]
    simp
theorem cut_to {k : Nat} : BV.cutD ds none (some (k : Int)) = ds.take k := by
  unfold BV.cutD
  rw [HT.sIx_none, sIx_nat, List.drop_zero, Nat.sub_zero]
  rcases Nat.le_total k ds.length with h | h
  · rw [Nat.min_eq_left h]
  · rw [Nat.min_eq_right h, List.take_length, List.take_of_length_le h]
@[simp] theorem cut_1 : BV.cutD ds (some 1) none = ds.drop 1 := cut_from (k := 1)
@[simp] theorem cut_2 : BV.cutD ds (some 2) none = ds.drop 2 := cut_from (k := 2)
@[simp] theorem cut_t1 : BV.cutD ds none (some 1) = ds.take 1 := cut_to (k := 1)
@[simp] theorem cut_t2 : BV.cutD ds none (some 2) = ds.take 2 := cut_to (k := 2)
@[simp] theorem cut_t3 : BV.cutD ds none (some 3) = ds.take 3 := cut_to (k := 3)
end
/-! the least, the greatest -/
section
variable {S : Sto} {d : D} {ds : List D} {Q : W → Prop} {g : D → List D → D}
@[simp ↓] theorem w_bestN : ok (fBest g S [.new (d :: ds)]) Q ↔ (alikeB (d :: ds) && SeqAt.shaped (.list (d :: ds))) = true ∧ Q (.dat (g d ds)) := id ok_if
@[simp ↓] theorem w_bestL : ok (fBest g S [.dat (.list (d :: ds))]) Q ↔ (alikeB (d :: ds) && SeqAt.shaped (.list (d :: ds))) = true ∧ Q (.dat (g d ds)) := id ok_if
@[simp ↓] theorem w_bestT : ok (fBest g S [.dat (.tuple (d :: ds))]) Q ↔ (alikeB (d :: ds) && SeqAt.shaped (.list (d :: ds))) = true ∧ Q (.dat (g d ds)) := id ok_if
theorem alike_ints (is : List Int) : (alikeB (is.map PyData.int) && SeqAt.shaped (.list (is.map PyData.int))) = true := by
  rw [Bool.and_eq_true]
  constructor
  · unfold alikeB
    simp [W.alike]
  · rw [shaped_lay, lay_list]
    simp
theorem alike_strs (xs : List Str) (h : ∀ x ∈ xs, PyData.strOk x = true) : (alikeB (xs.map PyData.str) && SeqAt.shaped (.list (xs.map PyData.str))) = true := by
  rw [Bool.and_eq_true]
  constructor
  · unfold alikeB
    simp [W.alike]
  · rw [shaped_lay, lay_list]
    simpa using h
theorem enum_from : ∀ (ds : List D) (k : Nat), enumD k ds = (List.range ds.length).map fun i => .tuple [.int ((k + i : Nat) : Int), ds.getD i .none]
  | [], _ => rfl
  | d :: ds, k => by
    rw [enumD, enum_from ds (k + 1), List.length_cons, List.range_succ_eq_map, List.map_cons, List.map_map]
    congr 1
    refine List.map_congr_left fun i _ => ?_
    show PyData.tuple [.int ((k + 1 + i : Nat) : Int), ds.getD i .none] = .tuple [.int ((k + (i + 1) : Nat) : Int), (d :: ds).getD (i + 1) .none]
    have : k + 1 + i = k + (i + 1) := by omega
    rw [this]
    simp
theorem enum_range (ds : List D) : enumD 0 ds = (List.range ds.length).map fun (i : Nat) => .tuple [.int (i : Int), ds.getD i .none] := by
  rw [enum_from]
  simp only [Nat.zero_add]
/-! the different ones, each where it first comes -/
def uL {α : Type} [DecidableEq α] (l : List α) : List α := l.foldl (fun acc x => if x ∈ acc then acc else acc ++ [x]) []
theorem uL_snoc {α : Type} [DecidableEq α] (l : List α) (x : α) : uL (l ++ [x]) = if x ∈ uL l then uL l else uL l ++ [x] := by
  unfold uL
  rw [List.foldl_append]
  rfl
theorem mem_uL {α : Type} [DecidableEq α] (l : List α) (x : α) : x ∈ uL l ↔ x ∈ l := by
  have key : ∀ (n : Nat) (l : List α), l.length = n → ∀ x, x ∈ uL l ↔ x ∈ l := fun n => by
    induction n with
    | zero => intro l hl x; rw [List.eq_nil_of_length_eq_zero hl]; exact Iff.rfl
    | succ n ih =>
      intro l hl x
      have hne : l ≠ [] := fun e => by rw [e] at hl; cases hl
      obtain ⟨m, y, rfl⟩ : ∃ m y, l = m ++ [y] := ⟨l.dropLast, l.getLast hne, (List.dropLast_concat_getLast hne).symm⟩
      have hm : m.length = n := by rw [List.length_append, List.length_singleton] at hl; omega
      rw [uL_snoc]
      by_cases h : y ∈ uL m
      · rw [if_pos h, ih m hm, List.mem_append, List.mem_singleton]
        exact ⟨.inl, fun z => z.elim id fun z => by rw [z]; exact (ih m hm y).mp h⟩
      · rw [if_neg h, List.mem_append, List.mem_append, ih m hm]
  exact key _ l rfl x
theorem uL_len {α : Type} [DecidableEq α] (l : List α) : (uL l).length ≤ l.length := by
  have key : ∀ (l acc : List α), (l.foldl (fun acc x => if x ∈ acc then acc else acc ++ [x]) acc).length ≤ acc.length + l.length := fun l => by
    induction l with
    | nil => intro acc; exact Nat.le_refl _
    | cons x l ih =>
      intro acc
      rw [List.foldl_cons, List.length_cons]
      have := ih (if x ∈ acc then acc else acc ++ [x])
      have h2 : (if x ∈ acc then acc else acc ++ [x]).length ≤ acc.length + 1 := by
        split
        · omega
        · simp
      omega
  have := key l []
  rw [List.length_nil, Nat.zero_add] at this
  exact this
/-- kept by their place: those that are not among the ones ahead -/
theorem uL_places {α : Type} [DecidableEq α] (l : List α) (f : Nat → Option α) (hf : ∀ i x, l[i]? = some x → f i = if x ∈ l.take i then none else some x) : (List.range l.length).filterMap f = uL l := by
  have key : ∀ n, n ≤ l.length → (List.range n).filterMap f = uL (l.take n) := fun n => by
    induction n with
    | zero => intro _; rfl
    | succ n ih =>
      intro hn
      have hx : l[n]? = some l[n] := List.getElem?_eq_getElem (by omega)
      rw [List.range_succ, List.filterMap_append, ih (by omega), List.take_succ, hx]
      show _ ++ List.filterMap f [n] = uL (l.take n ++ [l[n]])
      rw [uL_snoc]
      have := hf n _ hx
      by_cases h : l[n] ∈ l.take n
      · rw [if_pos h] at this
        rw [if_pos ((mem_uL _ _).mpr h)]
        simp [this]
      · rw [if_neg h] at this
        rw [if_neg fun z => h ((mem_uL _ _).mp z)]
        simp [this]
  have := key l.length (Nat.le_refl _)
  rwa [List.take_length] at this
theorem putS_fold {α : Type} [DecidableEq α] (f : α → Key) (hf : ∀ x y, f x = f y → x = y) (l : List α) : (l.map f).foldl putS [] = (uL l).map f := by
  have key : ∀ (l acc : List α), (l.map f).foldl putS (acc.map f) = (l.foldl (fun acc x => if x ∈ acc then acc else acc ++ [x]) acc).map f := fun l => by
    induction l with
    | nil => intro acc; rfl
    | cons x l ih =>
      intro acc
      rw [List.map_cons, List.foldl_cons, List.foldl_cons]
      have : putS (acc.map f) (f x) = (if x ∈ acc then acc else acc ++ [x]).map f := by
        unfold putS
        have e : ((acc.map f).any fun z => decide (z = f x)) = decide (x ∈ acc) := by
          rw [List.any_map]
          by_cases h : x ∈ acc
          · rw [decide_eq_true h, List.any_eq_true]
            exact ⟨x, h, decide_eq_true rfl⟩
          · rw [decide_eq_false h, List.any_eq_false]
            intro y hy e
            exact h (by rw [← hf y x (of_decide_eq_true e)]; exact hy)
        rw [e]
        by_cases h : x ∈ acc
        · rw [if_pos (decide_eq_true h), if_pos h]
        · rw [if_neg (by rw [decide_eq_false h]; exact Bool.false_ne_true), if_neg h, List.map_append]; rfl
      rw [this, ih]
  exact key l []
end
/-! ### comprehensions -/
def kLc (us : List Nat) (b : BE) (mt : MT) (me : ME) (η : Env) (Q : QE) : QI := fun p => ok (loopC p.2.1 p.1 b mt me p.1 (wipeE η us) p.2.2 []) fun q => Q (.new q.1, q.2)
def turnC (b : BE) (mt : MT) (me : ME) (η : Env) (S : Sto) (d : D) : Option (Option D × Sto) := (b d η).bind fun η1 => (mt η1 S).bind fun p => if p.1 = true then (me η1 p.2).bind fun q => (ditem q.1).map fun d' => (some d', q.2) else some (none, p.2)
abbrev QC := Option D × Sto → Prop
def kTu (mt : MT) (me : ME) (S : Sto) (Q : QC) : Env → Prop := fun η1 => ok (mt η1 S) fun p => if p.1 = true then ok (me η1 p.2) fun q => ok (ditem q.1) fun d' => Q (some d', q.2) else Q (none, p.2)
def kTu1 (me : ME) (η1 : Env) (Q : QC) : QT := fun p => if p.1 = true then ok (me η1 p.2) fun q => ok (ditem q.1) fun d' => Q (some d', q.2) else Q (none, p.2)
def kTu2 (Q : QC) : QE := fun q => ok (ditem q.1) fun d' => Q (some d', q.2)
section
variable {η : Env} {S : Sto} {Q : QE} {b : BE} {mt : MT} {me : ME}
@[simp ↓] theorem w_lc {us : List Nat} {mi : MI} : ok (mLc us mi b mt me η S) Q ↔ ok (mi η S) (kLc us b mt me η Q) := id (ok_b fun p => ok_ms fun q => Iff.rfl)
@[simp ↓] theorem w_turn {Q : QC} {d : D} : ok (turnC b mt me η S d) Q ↔ ok (b d η) (kTu mt me S Q) := id (ok_b fun η1 => ok_bs fun p => by
  rw [iteT]
  split
  · exact ok_bs fun q => ok_ms fun d' => Iff.rfl
  · exact ok_some.symm)
@[simp ↓] theorem k_Tu {Q : QC} : kTu mt me S Q η ↔ ok (mt η S) (kTu1 me η Q) := id Iff.rfl
@[simp ↓] theorem k_Tu1 {Q : QC} {c : Bool} : kTu1 me η Q (c, S) ↔ if c = true then ok (me η S) (kTu2 Q) else Q (none, S) := id Iff.rfl
@[simp ↓] theorem k_Tu2 {Q : QC} {d : D} : kTu2 Q (.dat d, S) ↔ Q (some d, S) := id ok_some
@[simp ↓] theorem k_Tu2n {Q : QC} {ds : List D} : kTu2 Q (.new ds, S) ↔ Q (some (.list ds), S) := id ok_some
open Classical in
theorem loopC_inv {g : Gd} {all : List D} (I : List D → Sto → List D → Prop) (hT : ∀ d ds S acc, d ∈ all → I (d :: ds) S acc → gok g all S ∧ acc.length < sizeLine ∧ ok (turnC b mt me η S d) fun p => I ds p.2 (match p.1 with | some d' => acc ++ [d'] | none => acc))
    (hE : ∀ S acc, I [] S acc → gok g all S) : ∀ (ds : List D) (S : Sto) (acc : List D), (∀ d ∈ ds, d ∈ all) → I ds S acc → ok (loopC g all b mt me ds η S acc) fun q => I [] q.2 q.1
  | [], S, acc, _, h => by
    unfold loopC
    exact ok_if.mpr ⟨hE S acc h, h⟩
  | d :: ds, S, acc, hm, h => by
    obtain ⟨h1, h2, h3⟩ := hT d ds S acc (hm d List.mem_cons_self) h
    have hm' : ∀ d ∈ ds, d ∈ all := fun x hx => hm x (List.mem_cons_of_mem _ hx)
    unfold loopC
    refine ok_ite.mpr ⟨h1, ?_⟩
    unfold turnC at h3
    rw [ok_bind] at h3 ⊢
    refine ok_mono h3 fun η1 h3 => ?_
    rw [ok_bind] at h3 ⊢
    refine ok_mono h3 fun p h3 => ?_
    rw [iteT] at h3 ⊢
    split
    · rename_i hp
      rw [if_pos hp] at h3
      rw [ok_bind] at h3 ⊢
      refine ok_mono h3 fun q h3 => ?_
      rw [ok_map] at h3
      rw [ok_bind]
      refine ok_mono h3 fun d' h3 => ?_
      exact loopC_inv I hT hE ds _ _ hm' h3
    · rename_i hp
      rw [if_neg hp, ok_some] at h3
      exact loopC_inv I hT hE ds _ _ hm' h3
/-- each turn tells its item, or none, and changes nothing -/
theorem lc_fm {α : Type} {us : List Nat} {ds : List D} {g : Gd} (enc : α → D) (es : List α) (h : α → Option D) (hds : ds = es.map enc) (hg : gok g ds S) (hl : es.length ≤ 16777216)
    (ht : ∀ e ∈ es, ok (turnC b mt me (wipeE η us) S (enc e)) fun p => p = (h e, S)) (hQ : Q (.new (es.filterMap h), S)) : kLc us b mt me η Q (ds, g, S) := by
  subst hds
  unfold kLc
  dsimp only
  have key := loopC_inv (g := g) (all := es.map enc) (b := b) (mt := mt) (me := me) (η := wipeE η us) (fun ds S' acc => S' = S ∧ ∃ es1 es2, es = es1 ++ es2 ∧ ds = es2.map enc ∧ acc = es1.filterMap h) ?_ ?_ (es.map enc) S [] (fun _ h => h) ⟨rfl, [], es, rfl, rfl, rfl⟩
  · refine ok_mono key fun q ⟨e1, es1, es2, e2, e3, e4⟩ => ?_
    have : es2 = [] := List.map_eq_nil_iff.mp e3.symm
    subst this
    rw [List.append_nil] at e2
    subst e2
    obtain ⟨q1, q2⟩ := q
    dsimp only at e1 e4 ⊢
    rw [e4, e1]
    exact hQ
  · rintro d ds S' acc _ ⟨rfl, es1, es2, e2, e3, e4⟩
    cases es2 with
    | nil => cases e3
    | cons e es2 =>
      rw [List.map_cons] at e3
      injection e3 with e3 e5
      subst e3 e5
      refine ⟨hg, ?_, ?_⟩
      · rw [e4, sizeLine_eq]
        have := List.length_filterMap_le h es1
        have := congrArg List.length e2
        rw [List.length_append, List.length_cons] at this
        omega
      · refine ok_mono (ht e (by rw [e2]; exact List.mem_append_right _ List.mem_cons_self)) fun p hp => ?_
        subst hp
        refine ⟨rfl, es1 ++ [e], es2, by rw [e2, List.append_assoc]; rfl, rfl, ?_⟩
        rw [List.filterMap_append, e4]
        cases he : h e with
        | none => simp [he]
        | some d' => simp [he]
  · rintro S' acc ⟨rfl, _⟩
    exact hg
theorem lc_map {α : Type} {us : List Nat} {ds : List D} {g : Gd} (enc : α → D) (es : List α) (h : α → D) (hds : ds = es.map enc) (hg : gok g ds S) (hl : es.length ≤ 16777216)
    (ht : ∀ e ∈ es, ok (turnC b mt me (wipeE η us) S (enc e)) fun p => p = (some (h e), S)) (hQ : Q (.new (es.map h), S)) : kLc us b mt me η Q (ds, g, S) := by
  refine lc_fm enc es (fun e => some (h e)) hds hg hl ht ?_
  have : es.filterMap (fun e => some (h e)) = es.map h := by rw [List.filterMap_eq_map']
  rw [this]
  exact hQ
theorem lc_filter {α : Type} {us : List Nat} {ds : List D} {g : Gd} (enc : α → D) (es : List α) (p : α → Bool) (h : α → D) (hds : ds = es.map enc) (hg : gok g ds S) (hl : es.length ≤ 16777216)
    (ht : ∀ e ∈ es, ok (turnC b mt me (wipeE η us) S (enc e)) fun q => q = (if p e = true then some (h e) else none, S)) (hQ : Q (.new ((es.filter p).map h), S)) : kLc us b mt me η Q (ds, g, S) := by
  refine lc_fm enc es (fun e => if p e = true then some (h e) else none) hds hg hl ht ?_
  have : ∀ l : List α, l.filterMap (fun e => if p e = true then some (h e) else none) = (l.filter p).map h := fun l => by
    induction l with
    | nil => rfl
    | cons x l ih =>
      by_cases hx : p x = true
      · rw [List.filterMap_cons, if_pos hx, List.filter_cons, if_pos hx, List.map_cons, ih]
      · rw [List.filterMap_cons, if_neg hx, List.filter_cons, if_neg hx, ih]
  rw [this]
  exact hQ
/-- each turn keeps what is said of the turns so far; the list walked is no cell -/
theorem lc_inv {us : List Nat} {ds : List D} (I : Nat → Sto → List D → Prop) (h0 : I 0 S []) (hl : ds.length ≤ 16777216) (hi : ∀ i S acc, I i S acc → acc.length ≤ i)
    (ht : ∀ i S acc d, ds[i]? = some d → I i S acc → ok (turnC b mt me (wipeE η us) S d) fun p => I (i + 1) p.2 (match p.1 with | some d' => acc ++ [d'] | none => acc))
    (hQ : ∀ S acc, I ds.length S acc → Q (.new acc, S)) : kLc us b mt me η Q (ds, none, S) := by
  unfold kLc
  dsimp only
  have key := loopC_inv (g := none) (all := ds) (b := b) (mt := mt) (me := me) (η := wipeE η us) (fun rest S acc => ∃ es1, ds = es1 ++ rest ∧ I es1.length S acc) ?_ (fun _ _ _ => trivial) ds S [] (fun _ h => h) ⟨[], rfl, h0⟩
  · refine ok_mono key fun q ⟨es1, e1, e2⟩ => ?_
    rw [List.append_nil] at e1
    subst e1
    exact hQ _ _ e2
  · rintro d rest S acc _ ⟨es1, e1, e2⟩
    have hd : ds[es1.length]? = some d := by rw [e1]; simp
    refine ⟨trivial, ?_, ?_⟩
    · rw [sizeLine_eq]
      have := hi _ _ _ e2
      have := congrArg List.length e1
      rw [List.length_append, List.length_cons] at this
      omega
    · refine ok_mono (ht _ S acc d hd e2) fun p hp => ⟨es1 ++ [d], by rw [e1, List.append_assoc]; rfl, ?_⟩
      rw [List.length_append, List.length_singleton]
      exact hp
end
/-! ### the keys of a dict comprehension -/
def turnD (b : BE) (mt : MT) (mk mv : ME) (η : Env) (S : Sto) (d : D) : Option (Option Key × Sto) := (b d η).bind fun η1 => (mt η1 S).bind fun p => if p.1 = true then (mk η1 p.2).bind fun q => ((ditem q.1).bind keyD).bind fun k => (mv η1 q.2).map fun r => (some k, r.2) else some (none, p.2)
abbrev QK := Option Key × Sto → Prop
def kUq (us : List Nat) (b : BE) (mt : MT) (mk mv : ME) (η : Env) (Q : QE) : QI := fun p => ok (loopD p.2.1 p.1 b mt mk mv p.1 (wipeE η us) p.2.2 []) fun q => Q (.new (q.1.map dKey), q.2)
def kTd (mt : MT) (mk mv : ME) (S : Sto) (Q : QK) : Env → Prop := fun η1 => ok (mt η1 S) fun p => if p.1 = true then ok (mk η1 p.2) fun q => ok ((ditem q.1).bind keyD) fun k => ok (mv η1 q.2) fun r => Q (some k, r.2) else Q (none, p.2)
def kTd1 (mk mv : ME) (η1 : Env) (Q : QK) : QT := fun p => if p.1 = true then ok (mk η1 p.2) fun q => ok ((ditem q.1).bind keyD) fun k => ok (mv η1 q.2) fun r => Q (some k, r.2) else Q (none, p.2)
def kTd2 (mv : ME) (η1 : Env) (Q : QK) : QE := fun q => ok ((ditem q.1).bind keyD) fun k => ok (mv η1 q.2) fun r => Q (some k, r.2)
def kTd3 (k : Key) (Q : QK) : QE := fun r => Q (some k, r.2)
section
variable {η : Env} {S : Sto} {Q : QE} {b : BE} {mt : MT} {mk mv : ME}
@[simp ↓] theorem w_uniq {us : List Nat} {mi : MI} : ok (mUniq us mi b mt mk mv η S) Q ↔ ok (mi η S) (kUq us b mt mk mv η Q) := id (ok_b fun p => ok_ms fun q => Iff.rfl)
@[simp ↓] theorem w_turnD {Q : QK} {d : D} : ok (turnD b mt mk mv η S d) Q ↔ ok (b d η) (kTd mt mk mv S Q) := id (ok_b fun η1 => ok_bs fun p => by
  rw [iteT]
  split
  · exact ok_bs fun q => ok_bs fun k => ok_ms fun d' => Iff.rfl
  · exact ok_some.symm)
@[simp ↓] theorem k_Td {Q : QK} : kTd mt mk mv S Q η ↔ ok (mt η S) (kTd1 mk mv η Q) := id Iff.rfl
@[simp ↓] theorem k_Td1 {Q : QK} {c : Bool} : kTd1 mk mv η Q (c, S) ↔ if c = true then ok (mk η S) (kTd2 mv η Q) else Q (none, S) := id Iff.rfl
@[simp ↓] theorem k_Td2i {Q : QK} {i : Int} : kTd2 mv η Q (.dat (.int i), S) ↔ ok (mv η S) (kTd3 (.inl i) Q) := id ok_some
@[simp ↓] theorem k_Td2s {Q : QK} {x : Str} : kTd2 mv η Q (.dat (.str x), S) ↔ ok (mv η S) (kTd3 (.inr x) Q) := id ok_some
@[simp ↓] theorem k_Td3 {Q : QK} {k : Key} {w : W} : kTd3 k Q (w, S) ↔ Q (some k, S) := id Iff.rfl
theorem putS_len (ks : List Key) (k : Key) : (putS ks k).length ≤ ks.length + 1 := by
  unfold putS
  split
  · omega
  · rw [List.length_append]; simp
theorem putS_all_len : ∀ (l ks : List Key), (l.foldl putS ks).length ≤ ks.length + l.length
  | [], ks => Nat.le_refl _
  | k :: l, ks => by
    rw [List.foldl_cons, List.length_cons]
    have := putS_all_len l (putS ks k)
    have := putS_len ks k
    omega
open Classical in
theorem uq_of {α : Type} {us : List Nat} {ds : List D} {g : Gd} (enc : α → D) (es : List α) (key : α → Key) (hds : ds = es.map enc) (hg : gok g ds S) (hl : es.length ≤ 1000000)
    (ht : ∀ e ∈ es, ok (turnD b mt mk mv (wipeE η us) S (enc e)) fun p => p = (some (key e), S)) (hQ : Q (.new (((es.map key).foldl putS []).map dKey), S)) : kUq us b mt mk mv η Q (ds, g, S) := by
  subst hds
  unfold kUq
  dsimp only
  have key' : ∀ (es2 : List α) (acc : List Key), (∀ e ∈ es2, e ∈ es) → acc.length + es2.length ≤ 1000000 → loopD g (es.map enc) b mt mk mv (es2.map enc) (wipeE η us) S acc = some ((es2.map key).foldl putS acc, S) := by
    intro es2
    induction es2 with
    | nil =>
      intro acc _ _
      rw [List.map_nil, loopD, if_pos hg]
      rfl
    | cons e es2 ih =>
      intro acc hm hz
      rw [List.length_cons] at hz
      have h := ok_eq.mp (ht e (hm e List.mem_cons_self))
      unfold turnD at h
      rw [List.map_cons, loopD, if_pos hg]
      cases e1 : b (enc e) (wipeE η us) with
      | none => rw [e1] at h; cases h
      | some η1 =>
        rw [e1] at h
        simp only [Option.bind_some] at h ⊢
        cases e2 : mt η1 S with
        | none => rw [e2] at h; cases h
        | some p =>
          rw [e2] at h
          simp only [Option.bind_some] at h ⊢
          by_cases hp : p.1 = true
          · rw [if_pos hp] at h ⊢
            cases e3 : mk η1 p.2 with
            | none => rw [e3] at h; cases h
            | some q =>
              rw [e3] at h
              simp only [Option.bind_some] at h ⊢
              cases e4 : (ditem q.1).bind keyD with
              | none => rw [e4] at h; cases h
              | some k =>
                rw [e4] at h
                simp only [Option.bind_some] at h ⊢
                cases e5 : mv η1 q.2 with
                | none => rw [e5] at h; cases h
                | some r =>
                  rw [e5] at h
                  simp only [Option.map_some, Option.some.injEq, Prod.mk.injEq] at h
                  obtain ⟨h1, h2⟩ := h
                  subst h1
                  simp only [Option.bind_some]
                  rw [if_pos (by rw [sizeLine_eq]; omega), h2, ih _ (fun x hx => hm x (List.mem_cons_of_mem _ hx)) (by have := putS_len acc (key e); omega)]
                  rfl
          · rw [if_neg hp] at h
            cases h
  exact ok_of (key' es [] (fun _ h => h) (by simp only [List.length_nil]; omega)) hQ
end
/-! ### loops -/
def kFor (b : BE) (mb : MS) (η : Env) (Q : QS) : QI := fun p => ok (loopF p.2.1 p.1 b mb p.1 η p.2.2) Q
def kBe (mb : MS) (S : Sto) (Q : QS) : Env → Prop := fun η1 => ok (mb η1 S) Q
section
variable {η : Env} {S : Sto} {Q : QS} {b : BE} {mb : MS}
@[simp ↓] theorem w_for {mi : MI} : ok (mFor mi b mb η S) Q ↔ ok (mi η S) (kFor b mb η Q) := id (ok_b fun p => Iff.rfl)
@[simp ↓] theorem k_Be : kBe mb S Q η ↔ ok (mb η S) Q := id Iff.rfl
/-- what a turn may end with: I for the next turn, or the end of the loop -/
def kTurn (I : Env → Sto → Prop) (Q : QS) : QS := fun p => match p.1 with
  | .next => I p.2.1 p.2.2
  | .cont => I p.2.1 p.2.2
  | .brk => Q (.next, p.2.1, p.2.2)
  | .ret w => Q (.ret w, p.2.1, p.2.2)
@[simp ↓] theorem k_TurnN {I : Env → Sto → Prop} : kTurn I Q (.next, η, S) ↔ I η S := id Iff.rfl
@[simp ↓] theorem k_TurnC {I : Env → Sto → Prop} : kTurn I Q (.cont, η, S) ↔ I η S := id Iff.rfl
@[simp ↓] theorem k_TurnB {I : Env → Sto → Prop} : kTurn I Q (.brk, η, S) ↔ Q (.next, η, S) := id Iff.rfl
@[simp ↓] theorem k_TurnR {I : Env → Sto → Prop} {w : W} : kTurn I Q (.ret w, η, S) ↔ Q (.ret w, η, S) := id Iff.rfl
open Classical in
theorem loopF_inv {g : Gd} {all : List D} (I : List D → Env → Sto → Prop) (hg : ∀ ds η S, I ds η S → gok g all S) (hT : ∀ d ds η S, d ∈ all → I (d :: ds) η S → ok (b d η) fun η1 => ok (mb η1 S) (kTurn (I ds) Q))
    (hE : ∀ η S, I [] η S → Q (.next, η, S)) : ∀ (ds : List D) (η : Env) (S : Sto), (∀ d ∈ ds, d ∈ all) → I ds η S → ok (loopF g all b mb ds η S) Q
  | [], η, S, _, h => by
    unfold loopF
    exact ok_if.mpr ⟨hg _ _ _ h, hE _ _ h⟩
  | d :: ds, η, S, hm, h => by
    have hm' : ∀ d ∈ ds, d ∈ all := fun x hx => hm x (List.mem_cons_of_mem _ hx)
    unfold loopF
    refine ok_ite.mpr ⟨hg _ _ _ h, ?_⟩
    rw [ok_bind]
    refine ok_mono (hT d ds η S (hm d List.mem_cons_self) h) fun η1 h1 => ?_
    rw [ok_bind]
    refine ok_mono h1 fun p h2 => ?_
    obtain ⟨f, η2, S2⟩ := p
    cases f with
    | next => exact loopF_inv I hg hT hE ds _ _ hm' h2
    | cont => exact loopF_inv I hg hT hE ds _ _ hm' h2
    | brk => exact ok_some.mpr h2
    | ret w => exact ok_some.mpr h2
theorem for_inv {ds : List D} {g : Gd} (I : Nat → Env → Sto → Prop) (h0 : I 0 η S) (hg : ∀ i η S, I i η S → gok g ds S)
    (ht : ∀ i η S d, ds[i]? = some d → I i η S → ok (b d η) (kBe mb S (kTurn (I (i + 1)) Q))) (hE : ∀ η S, I ds.length η S → Q (.next, η, S)) : kFor b mb η Q (ds, g, S) := by
  unfold kFor
  dsimp only
  refine loopF_inv (g := g) (all := ds) (fun rest η S => ∃ es1, ds = es1 ++ rest ∧ I es1.length η S) (fun _ _ _ ⟨_, _, h⟩ => hg _ _ _ h) ?_ ?_ ds η S (fun _ h => h) ⟨[], rfl, h0⟩
  · rintro d rest η S _ ⟨es1, e1, e2⟩
    have hd : ds[es1.length]? = some d := by rw [e1]; simp
    refine ok_mono (ht _ η S d hd e2) fun η1 h1 => ok_mono h1 fun p h2 => ?_
    obtain ⟨f, η2, S2⟩ := p
    have more : I (es1.length + 1) η2 S2 → ∃ es, ds = es ++ rest ∧ I es.length η2 S2 := fun h => ⟨es1 ++ [d], by rw [e1, List.append_assoc]; rfl, by rw [List.length_append, List.length_singleton]; exact h⟩
    cases f with
    | next => exact more h2
    | cont => exact more h2
    | brk => exact h2
    | ret w => exact h2
  · rintro η S ⟨es1, e1, e2⟩
    rw [List.append_nil] at e1
    subst e1
    exact hE _ _ e2
/-- a loop over what is no cell -/
theorem for_n {ds : List D} (I : Nat → Env → Sto → Prop) (h0 : I 0 η S)
    (ht : ∀ i η S d, ds[i]? = some d → I i η S → ok (b d η) (kBe mb S (kTurn (I (i + 1)) Q))) (hE : ∀ η S, I ds.length η S → Q (.next, η, S)) : kFor b mb η Q (ds, none, S) :=
  for_inv I h0 (fun _ _ _ _ => trivial) ht hE
/-- while, by a measure -/
theorem while_inv {t : MT} (I : Nat → Env → Sto → Prop) (ht : ∀ n η S, I n η S → ok (t η S) fun p => if p.1 = true then 0 < n ∧ ok (mb η p.2) (kTurn (I (n - 1)) Q) else Q (.next, η, p.2)) : ∀ (n k : Nat) (η : Env) (S : Sto), I n η S → n < k → ok (whileF t mb k η S) Q
  | n, 0, _, _, _, hk => absurd hk (Nat.not_lt_zero _)
  | n, k + 1, η, S, h, hk => by
    unfold whileF
    rw [ok_bind]
    refine ok_mono (ht n η S h) fun p h1 => ?_
    rw [iteT]
    split
    · rename_i hp
      rw [if_pos hp] at h1
      obtain ⟨hn, h1⟩ := h1
      rw [ok_bind]
      refine ok_mono h1 fun q h2 => ?_
      obtain ⟨f, η2, S2⟩ := q
      cases f with
      | next => exact while_inv I ht (n - 1) k _ _ h2 (by omega)
      | cont => exact while_inv I ht (n - 1) k _ _ h2 (by omega)
      | brk => exact ok_some.mpr h2
      | ret w => exact ok_some.mpr h2
    · rename_i hp
      rw [if_neg hp] at h1
      exact ok_some.mpr h1
end
theorem intsR_get {lo : Int} {n i : Nat} {d : D} (h : (intsR lo n)[i]? = some d) : i < n ∧ d = .int (lo + i) := by
  have hi : i < n := by
    have := (List.getElem?_eq_some_iff.mp h).1
    rwa [intsR, List.length_map, List.length_range] at this
  refine ⟨hi, ?_⟩
  unfold intsR at h
  rw [List.getElem?_map, List.getElem?_range hi] at h
  exact (Option.some.inj h).symm
@[simp] theorem intsR_len {lo : Int} {n : Nat} : (intsR lo n).length = n := by rw [intsR, List.length_map, List.length_range]
/-! ### a store with one cell that is drawn from -/
@[irreducible] def St (P : Sto) (b : List D) (T : Sto) : Sto := P ++ b :: T
section
variable {P T U : Sto} {b v x : List D} {j : Nat}
theorem st_def : St P b T = P ++ b :: T := by unfold St; rfl
@[simp] theorem st_at : (St P b T)[P.length]? = some b := by
  rw [st_def, List.getElem?_append_right (Nat.le_refl _), Nat.sub_self]; rfl
@[simp] theorem st_set : List.set (St P b T) P.length v = St P v T := by
  rw [st_def, st_def, List.set_append, if_neg (Nat.lt_irrefl _), Nat.sub_self]; rfl
@[simp] theorem st_snoc : St P b T ++ U = St P b (T ++ U) := by rw [st_def, st_def, List.append_assoc]; rfl
@[simp] theorem st_len : List.length (St P b T) = P.length + 1 + T.length := by rw [st_def, List.length_append, List.length_cons]; omega
theorem st_get (i : Nat) : (St P b T)[P.length + 1 + i]? = T[i]? := by
  rw [st_def, List.getElem?_append_right (by omega)]
  have : P.length + 1 + i - P.length = i + 1 := by omega
  rw [this, List.getElem?_cons_succ]
@[simp] theorem st_at1 : (St P b (T ++ x :: U))[P.length + 1 + T.length]? = some x := by
  rw [st_get, List.getElem?_append_right (Nat.le_refl _), Nat.sub_self]; rfl
@[simp] theorem st_at2 {y : List D} : (St P b (T ++ x :: y :: U))[P.length + 1 + (T.length + 1)]? = some y := by
  rw [st_get, List.getElem?_append_right (by omega)]
  have : T.length + 1 - T.length = 1 := by omega
  rw [this]; rfl
@[simp] theorem st_at3 {y z : List D} : (St P b (T ++ x :: y :: z :: U))[P.length + 1 + (T.length + 2)]? = some z := by
  rw [st_get, List.getElem?_append_right (by omega)]
  have : T.length + 2 - T.length = 2 := by omega
  rw [this]; rfl
theorem st_put (i : Nat) : List.set (St P b T) (P.length + 1 + i) v = St P b (List.set T i v) := by
  rw [st_def, st_def, List.set_append, if_neg (by omega)]
  have : P.length + 1 + i - P.length = i + 1 := by omega
  rw [this]; rfl
@[simp] theorem st_set1 : List.set (St P b (T ++ x :: U)) (P.length + 1 + T.length) v = St P b (T ++ v :: U) := by
  rw [st_put, List.set_append, if_neg (by omega), Nat.sub_self]; rfl
@[simp] theorem st_set2 {y : List D} : List.set (St P b (T ++ x :: y :: U)) (P.length + 1 + (T.length + 1)) v = St P b (T ++ x :: v :: U) := by
  rw [st_put, List.set_append, if_neg (by omega)]
  have : T.length + 1 - T.length = 1 := by omega
  rw [this]; rfl
@[simp] theorem st_set3 {y z : List D} : List.set (St P b (T ++ x :: y :: z :: U)) (P.length + 1 + (T.length + 2)) v = St P b (T ++ x :: y :: v :: U) := by
  rw [st_put, List.set_append, if_neg (by omega)]
  have : T.length + 2 - T.length = 2 := by omega
  rw [this]; rfl
@[simp] theorem st_take0 : List.take (P.length + 1 + T.length) (St P b T) = St P b T := by
  rw [List.take_of_length_le]; rw [st_len]; exact Nat.le_refl _
@[simp] theorem st_take : List.take (P.length + 1 + T.length) (St P b (T ++ U)) = St P b T := by
  rw [st_def, st_def, List.take_append]
  have h1 : P.length + 1 + T.length - P.length = T.length + 1 := by omega
  rw [h1, List.take_of_length_le (by omega), List.take_succ_cons, List.take_left]
end
/-! ### a list made, looked at, changed and forgotten -/
def kTri2 (i : Nat) (es ds : List D) (η : Env) (Q : QS) : QT := fun p => if p.1 = true then Q (.ret (.dat (.bool false)), η.set i (some (.dat (.list es))), p.2) else (FlatS p.2 ∧ ds.length < 16777216 ∧ i < η.length) ∧ Q (.next, η.set i none, p.2)
def kTri1 (i : Nat) (mt : MT) (ds : List D) (η : Env) (S : Sto) (Q : QS) : List D → Prop := fun es => es.length ≤ 16777216 ∧ ok (mt (η.set i (some (.dat (.list es)))) S) (kTri2 i es ds η Q)
def kTri (i : Nat) (mt : MT) (η : Env) (Q : QS) : QA := fun p => match p.1 with
  | .new ds :: ws => kIt (kTri1 i mt ds η p.2 Q) (.new ds :: ws) []
  | _ => False
section
variable {i : Nat} {es ds : List D} {η : Env} {S : Sto} {Q : QS} {mt : MT} {ms : MA} {x : Str}
open Classical in
@[simp ↓] theorem w_tri : ok (mTri i ms mt x η S) Q ↔ ok (ms η S) (kTri i mt η Q) := id (by
  refine ok_b fun p => ?_
  obtain ⟨ws, S1⟩ := p
  unfold kTri
  cases ws with
  | nil => exact ok_none.symm
  | cons w ws =>
    cases w with
    | dat _ => exact ok_none.symm
    | hd _ => exact ok_none.symm
    | frz _ => exact ok_none.symm
    | new ds =>
      dsimp only
      unfold kIt
      refine ok_bs fun es => ?_
      unfold kTri1
      rw [sizeLine_eq, ok_ite]
      refine and_congr_right fun _ => ?_
      refine ok_bs fun t => ?_
      unfold kTri2
      rw [iteT, iteT]
      by_cases h : t.1 = true
      · rw [if_pos h, if_pos h, ok_some]; exact Iff.rfl
      · rw [if_neg h, if_neg h]
        by_cases h2 : FlatS t.2 ∧ ds.length < 16777216 ∧ i < η.length
        · rw [if_pos h2, ok_some]; exact ⟨fun q => q.2, fun q => ⟨h2, q⟩⟩
        · rw [if_neg h2, ok_none]; exact ⟨fun q => absurd q.1 h2, False.elim⟩)
@[simp ↓] theorem k_Tri {ws : List W} : kTri i mt η Q (.new ds :: ws, S) ↔ kIt (kTri1 i mt ds η S Q) (.new ds :: ws) [] := id Iff.rfl
@[simp ↓] theorem k_Tri1 : kTri1 i mt ds η S Q es ↔ es.length ≤ 16777216 ∧ ok (mt (η.set i (some (.dat (.list es)))) S) (kTri2 i es ds η Q) := id Iff.rfl
@[simp ↓] theorem k_Tri2 {c : Bool} : kTri2 i es ds η Q (c, S) ↔ if c = true then Q (.ret (.dat (.bool false)), η.set i (some (.dat (.list es))), S) else (FlatS S ∧ ds.length < 16777216 ∧ i < η.length) ∧ Q (.next, η.set i none, S) := id Iff.rfl
end
theorem flatS_nil : FlatS [] := fun _ h => absurd h List.not_mem_nil
theorem flatS_st {P T : Sto} {b : List D} : FlatS (St P b T) ↔ FlatS P ∧ b.all isFlat = true ∧ FlatS T := by
  rw [st_def]
  unfold FlatS
  constructor
  · intro h
    exact ⟨fun d hd => h d (List.mem_append_left _ hd), h b (List.mem_append_right _ List.mem_cons_self), fun d hd => h d (List.mem_append_right _ (List.mem_cons_of_mem _ hd))⟩
  · rintro ⟨h1, h2, h3⟩ d hd
    rcases List.mem_append.mp hd with hd | hd
    · exact h1 d hd
    · rcases List.mem_cons.mp hd with rfl | hd
      · exact h2
      · exact h3 d hd
end BV
set_option Elab.async false
set_option linter.all false
set_option maxRecDepth 100000
set_option maxHeartbeats 1000000
namespace BV
open PySem PySem.Spec PyProof.Rows L2
/-! ### how long repr is -/
structure Rp (m : Nat) (d : D) : Prop where
  sh : d.showable = true
  nd : d.hasDict = false
  le : d.shown.length ≤ m
  ok : PyData.strOk d.shown = true
theorem Rp.mono {m n : Nat} {d : D} (h : Rp m d) (hm : m ≤ n) : Rp n d := ⟨h.sh, h.nd, Nat.le_trans h.le hm, h.ok⟩
theorem strOk_app (a b : Str) : PyData.strOk (a ++ b) = (PyData.strOk a && PyData.strOk b) := by
  unfold PyData.strOk
  show ((a.cps ++ b.cps).all _) = _
  rw [Array.all_append]
theorem strOk_iff (x : Str) : PyData.strOk x = true ↔ ∀ c ∈ x.cps.toList, c < 0x110000 := by
  unfold PyData.strOk
  rw [Array.all_eq_true']
  simp
theorem char_ok (c : Char) : c.toNat < 0x110000 := by
  have := c.valid
  simp only [UInt32.isValidChar, Nat.isValidChar] at this
  show c.val.toNat < _
  omega
theorem reprChar_ok (q c : Nat) (hc : c < 0x110000) : ∀ y ∈ Builtin.Str.reprChar q c, y < 0x110000 := by
  have hx : ∀ w, ∀ y ∈ List.replicate (w - ((Nat.toDigits 16 c).map Char.toNat).length) 48 ++ (Nat.toDigits 16 c).map Char.toNat, y < 0x110000 := by
    intro w y hy
    rcases List.mem_append.mp hy with hy | hy
    · rw [(List.mem_replicate.mp hy).2]; decide
    · obtain ⟨z, _, rfl⟩ := List.mem_map.mp hy
      exact char_ok z
  intro y hy
  unfold Builtin.Str.reprChar at hy
  dsimp only at hy
  repeat' split at hy
  all_goals first
    | (simp only [List.mem_cons, List.not_mem_nil, or_false] at hy; omega)
    | (rcases List.mem_append.mp hy with hy | hy
       · simp only [List.mem_cons, List.not_mem_nil, or_false] at hy; omega
       · exact hx _ _ hy)
theorem reprText_ok (x : Str) (h : PyData.strOk x = true) : PyData.strOk (reprText x) = true := by
  rw [strOk_iff] at h ⊢
  unfold reprText
  have key : ∀ (l : List Nat) (acc : Array Nat), (∀ c ∈ l, c < 0x110000) → (∀ c ∈ acc.toList, c < 0x110000) → ∀ c ∈ (l.foldl (fun out c => out ++ (Builtin.Str.reprChar (reprQuote x) c).toArray) acc).toList, c < 0x110000 := by
    intro l
    induction l with
    | nil => intro acc _ h; exact h
    | cons c l ih =>
      intro acc h1 h2
      rw [List.foldl_cons]
      refine ih _ (fun c hc => h1 c (List.mem_cons_of_mem _ hc)) ?_
      intro y hy
      rw [Array.toList_append] at hy
      rcases List.mem_append.mp hy with hy | hy
      · exact h2 y hy
      · exact reprChar_ok _ _ (h1 c List.mem_cons_self) y hy
  have hq : reprQuote x < 0x110000 := by unfold reprQuote; split <;> decide
  intro c hc
  rw [Array.toList_push, ← Array.foldl_toList] at hc
  rcases List.mem_append.mp hc with hc | hc
  · refine key _ #[reprQuote x] h ?_ c hc
    intro c hc
    have : c = reprQuote x := by simpa using hc
    rw [this]; exact hq
  · rw [List.mem_singleton.mp hc]; exact hq
theorem rp_none : Rp 5 .none := ⟨by simp [PyData.showable], by simp [PyData.hasDict], by rw [PyData.shown_none, of_len]; decide, by rw [PyData.shown_none]; exact strOk_of _⟩
theorem rp_bool (b : Bool) : Rp 5 (.bool b) := ⟨by simp [PyData.showable], by simp [PyData.hasDict], by rw [PyData.shown_bool]; cases b <;> (simp only [if_true, if_false, Bool.false_eq_true]; rw [of_len]; decide), by rw [PyData.shown_bool]; cases b <;> exact strOk_of _⟩
theorem nat_repr_len (n : Nat) (h : n < 10 ^ 45) : (Nat.repr n).length ≤ 45 := (Nat.length_repr_le_iff (by decide)).mpr h
theorem rp_int (i : Int) (h : i.natAbs < 10 ^ 45) : Rp 50 (.int i) := by
  refine ⟨?_, by simp [PyData.hasDict], ?_, by rw [PyData.shown_int]; exact strOk_of _⟩
  · simp only [PyData.showable, decide_eq_true_eq]
    by_cases h0 : i.natAbs = 0
    · rw [h0]; simp
    · exact (Nat.log2_lt h0).2 (Nat.lt_of_lt_of_le h (by decide +kernel))
  · rw [PyData.shown_int, of_len]
    cases i with
    | ofNat n =>
      have : toString (Int.ofNat n) = Nat.repr n := rfl
      rw [this]
      have := nat_repr_len n h
      omega
    | negSucc n =>
      have e : toString (Int.negSucc n) = "-" ++ Nat.repr (n + 1) := rfl
      rw [e, String.length_append]
      have := nat_repr_len (n + 1) h
      have e2 : "-".length = 1 := by decide
      omega
theorem rp_str (x : Str) (h : PyData.strOk x = true) : Rp (2 + 10 * x.length) (.str x) := by
  refine ⟨by simp [PyData.showable], by simp [PyData.hasDict], ?_, by rw [PyData.shown_str]; exact reprText_ok x h⟩
  rw [PyData.shown_str]
  have hc : ∀ c ∈ x.cps.toList, c < 16 ^ 8 := by
    intro c hc
    unfold PyData.strOk at h
    rw [Array.all_eq_true'] at h
    have := h c (by simpa using hc)
    have := of_decide_eq_true this
    omega
  have := StrLaws.reprText_len x hc
  omega
theorem str_len_app (a b : Str) : (a ++ b).length = a.length + b.length := by
  show (a.cps ++ b.cps).size = _
  rw [Array.size_append]
  rfl
theorem join_le (m : Nat) : ∀ ts : List Str, (∀ t ∈ ts, t.length ≤ m) → (Str.join ", " ts).length ≤ ts.length * (m + 2)
  | [], _ => Nat.zero_le _
  | [x], h => by
    show x.length ≤ _
    have := h x List.mem_cons_self
    simp only [List.length_singleton]
    omega
  | x :: y :: r, h => by
    show (x ++ ", " ++ Str.join ", " (y :: r)).length ≤ _
    rw [str_len_app, str_len_app, of_len]
    have h1 := h x List.mem_cons_self
    have h2 := join_le m (y :: r) fun t ht => h t (List.mem_cons_of_mem _ ht)
    have e : ", ".length = 2 := by decide
    rw [e, List.length_cons, Nat.add_mul, Nat.one_mul]
    omega
theorem join_ok : ∀ ts : List Str, (∀ t ∈ ts, PyData.strOk t = true) → PyData.strOk (Str.join ", " ts) = true
  | [], _ => strOk_of ""
  | [x], h => h x List.mem_cons_self
  | x :: y :: r, h => by
    show PyData.strOk (x ++ ", " ++ Str.join ", " (y :: r)) = true
    rw [strOk_app, strOk_app, strOk_of, h x List.mem_cons_self, join_ok (y :: r) fun t ht => h t (List.mem_cons_of_mem _ ht)]
    rfl
theorem shown_all_le {m : Nat} : ∀ {ds : List D}, (∀ d ∈ ds, Rp m d) → (∀ t ∈ PyData.shownAll ds, t.length ≤ m ∧ PyData.strOk t = true) ∧ PyData.showableAll ds = true ∧ PyData.hasDictAll ds = false
  | [], _ => ⟨by simp [PyData.shownAll], by simp [PyData.showableAll], by simp [PyData.hasDictAll]⟩
  | d :: ds, h => by
    obtain ⟨h1, h2, h3⟩ := shown_all_le (ds := ds) fun x hx => h x (List.mem_cons_of_mem _ hx)
    have h0 := h d List.mem_cons_self
    refine ⟨?_, ?_, ?_⟩
    · rw [PyData.shownAll_cons]
      intro t ht
      rcases List.mem_cons.mp ht with rfl | ht
      · exact ⟨h0.le, h0.ok⟩
      · exact h1 t ht
    · simp [PyData.showableAll, h0.sh, h2]
    · simp [PyData.hasDictAll, h0.nd, h3]
theorem rp_list {m : Nat} {ds : List D} (h : ∀ d ∈ ds, Rp m d) : Rp (4 + ds.length * (m + 2)) (.list ds) := by
  obtain ⟨h1, h2, h3⟩ := shown_all_le h
  refine ⟨by simpa [PyData.showable] using h2, by simpa [PyData.hasDict] using h3, ?_, ?_⟩
  · rw [PyData.shown_list, str_len_app, str_len_app, of_len, of_len]
    have := join_le m _ fun t ht => (h1 t ht).1
    rw [PyData.shownAll_length] at this
    have e1 : "[".length = 1 := by decide
    have e2 : "]".length = 1 := by decide
    omega
  · rw [PyData.shown_list, strOk_app, strOk_app, strOk_of, strOk_of, join_ok _ fun t ht => (h1 t ht).2]
    rfl
theorem rp_tuple {m : Nat} {ds : List D} (h : ∀ d ∈ ds, Rp m d) : Rp (4 + ds.length * (m + 2)) (.tuple ds) := by
  obtain ⟨h1, h2, h3⟩ := shown_all_le h
  refine ⟨by simpa [PyData.showable] using h2, by simpa [PyData.hasDict] using h3, ?_, ?_⟩
  · rw [PyData.shown_tuple, str_len_app, str_len_app, of_len, of_len]
    have := join_le m _ fun t ht => (h1 t ht).1
    rw [PyData.shownAll_length] at this
    have e1 : "(".length = 1 := by decide
    have e2 : (if (ds.length == 1) = true then ",)" else ")").length ≤ 2 := by split <;> decide
    omega
  · rw [PyData.shown_tuple, strOk_app, strOk_app, strOk_of, strOk_of, join_ok _ fun t ht => (h1 t ht).2]
    rfl
theorem repr_t {m : Nat} {ds : List D} (h : Rp m (.tuple ds)) (hm : m ≤ 16777216) (hl : lay 63 (.tuple ds) = true) : reprOk (.tuple ds) = true := by
  unfold reprOk
  unfold lay at hl
  simp only [Bool.and_eq_true, decide_eq_true_eq] at hl
  simp only [Bool.and_eq_true, decide_eq_true_eq, Bool.not_eq_true', h.sh, h.nd, and_true, true_and]
  exact ⟨by have := hl.2; omega, by rw [sizeLine_eq]; exact Nat.le_trans h.le hm⟩
theorem repr_l {m : Nat} {ds : List D} (h : Rp m (.list ds)) (hm : m ≤ 16777216) (hl : lay 63 (.list ds) = true) : reprOk (.list ds) = true := by
  unfold reprOk
  unfold lay at hl
  simp only [Bool.and_eq_true, decide_eq_true_eq] at hl
  simp only [Bool.and_eq_true, decide_eq_true_eq, Bool.not_eq_true', h.sh, h.nd, and_true, true_and]
  exact ⟨by have := hl.2; omega, by rw [sizeLine_eq]; exact Nat.le_trans h.le hm⟩
section
variable {S : Sto} {d : D} {ds : List D} {n : Nat} {Q : W → Prop}
@[simp ↓] theorem w_repr : ok (fRepr S [.dat d]) Q ↔ reprOk d = true ∧ Q (.dat (.str d.shown)) := id ok_if
@[simp ↓] theorem w_reprN : ok (fRepr S [.new ds]) Q ↔ reprOk (.list ds) = true ∧ Q (.dat (.str (PyData.list ds).shown)) := id ok_if
end
end BV
set_option Elab.async false
set_option linter.all false
set_option maxRecDepth 100000
set_option maxHeartbeats 1000000
namespace BV
open PySem PySem.Spec PyProof.Rows L2
/-! ### index, count, len(set(..)) -/
theorem diffI_eq (ns : List Int) : diffI ns = (uL ns).length := by
  unfold diffI firstMet uL
  have e : (List.range ns.length).map (fun i => ns.getD i 0) = ns := by
    refine List.ext_getElem (by simp) fun i h1 h2 => ?_
    rw [List.getElem_map, List.getElem_range, List.getD_eq_getElem?_getD, List.getElem?_eq_getElem h2]; rfl
  rw [e]
  congr 2
  funext acc x
  unfold step_dedup
  by_cases h : x ∈ acc <;> simp [h]
section
variable {S : Sto} {x d : D} {ds : List D} {n : Nat} {i : Int} {Q : W → Prop}
@[simp ↓] theorem w_index : ok (fIndex S (.dat (.list ds)) (.dat x)) Q ↔ (lay 64 (.list ds) = true ∧ lay 64 x = true) ∧ ok (firstAt x ds) fun j => Q (.dat (.int j)) := by
  unfold fIndex
  show ok (if _ then _ else _) Q ↔ _
  rw [ok_ite, ok_map, shaped_lay, shaped_lay]
@[simp ↓] theorem w_indexN : ok (fIndex S (.new ds) (.dat x)) Q ↔ (lay 64 (.list ds) = true ∧ lay 64 x = true) ∧ ok (firstAt x ds) fun j => Q (.dat (.int j)) := by
  unfold fIndex
  show ok (if _ then _ else _) Q ↔ _
  rw [ok_ite, ok_map, shaped_lay, shaped_lay]
@[simp ↓] theorem w_count : ok (fCount S (.dat (.list ds)) (.dat (.int i))) Q ↔ ok (intsD ds) fun ns => Q (.dat (.int (ns.count i : Nat))) := by
  unfold fCount
  show ok (Option.map _ (intsD ds)) Q ↔ _
  rw [ok_map]
@[simp ↓] theorem w_countN : ok (fCount S (.new ds) (.dat (.int i))) Q ↔ ok (intsD ds) fun ns => Q (.dat (.int (ns.count i : Nat))) := by
  unfold fCount
  show ok (Option.map _ (intsD ds)) Q ↔ _
  rw [ok_map]
end
theorem firstAt_ints (x : Int) : ∀ ns : List Int, x ∈ ns → firstAt (.int x) (ns.map .int) = some (ns.idxOf x)
  | [], h => absurd h List.not_mem_nil
  | y :: ns, h => by
    rw [List.map_cons, firstAt, List.idxOf_cons]
    by_cases hy : y = x
    · subst hy; simp
    · have hx : x ∈ ns := (List.mem_cons.mp h).resolve_left (Ne.symm hy)
      rw [firstAt_ints x ns hx]
      have : (y == x) = false := by simpa using hy
      simp [hy, this]
def kLs (Q : QE) : QE := fun p => ok (lview p.2 p.1) fun ds => ok (intsD ds) fun ns => ns.length < 4000 ∧ Q (.dat (.int (uL ns).length), p.2)
section
variable {S : Sto} {a : ME} {η : Env} {ds : List D} {Q : QE}
@[simp ↓] theorem w_lsI : ok (mLsI a η S) Q ↔ ok (a η S) (kLs Q) := id (ok_b fun p => ok_bs fun ds => ok_bs fun ns => by
  rw [ok_ite, ok_some, diffI_eq])
@[simp ↓] theorem k_Lsn : kLs Q (.new ds, S) ↔ ok (intsD ds) fun ns => ns.length < 4000 ∧ Q (.dat (.int (uL ns).length), S) := id ok_some
@[simp ↓] theorem k_Lsd : kLs Q (.dat (.list ds), S) ↔ ok (intsD ds) fun ns => ns.length < 4000 ∧ Q (.dat (.int (uL ns).length), S) := id ok_some
end
theorem lc_mono {us : List Nat} {b : BE} {mt : MT} {me : ME} {η : Env} {P Q : QE} {p : List D × Gd × Sto} (h : kLc us b mt me η P p) (hi : ∀ q, P q → Q q) : kLc us b mt me η Q p := by
  unfold kLc at *
  exact ok_mono h fun q hq => hi _ hq
@[simp] theorem isL_d {ds : List D} : isL (.dat (.list ds)) = true := id rfl
@[simp] theorem isL_n {ds : List D} : isL (.new ds) = true := id rfl
@[simp] theorem isL_h {n : Nat} : isL (.hd n) = true := id rfl
/-! comprehensions over range(n), and over a list of whole numbers -/
section
variable {us : List Nat} {b : BE} {mt : MT} {me : ME} {η : Env} {S : Sto} {Q : QE}
theorem rg0 {lo : Int} {n : Nat} : intsR lo n = (List.range n).map fun i : Nat => PyData.int (lo + i) := rfl
theorem lcR {n : Nat} (out : Nat → D) (hl : n ≤ 16777216) (ht : ∀ i, i < n → ok (turnC b mt me (wipeE η us) S (.int i)) fun p => p = (some (out i), S)) (hQ : Q (.new ((List.range n).map out), S)) : kLc us b mt me η Q (intsR 0 n, none, S) :=
  lc_map (fun i : Nat => .int (0 + i)) (List.range n) out rg0 trivial (by simpa using hl) (fun i hi => by rw [Int.zero_add]; exact ht i (List.mem_range.mp hi)) hQ
theorem lcRF {n : Nat} (p : Nat → Bool) (out : Nat → D) (hl : n ≤ 16777216) (ht : ∀ i, i < n → ok (turnC b mt me (wipeE η us) S (.int i)) fun q => q = (if p i = true then some (out i) else none, S)) (hQ : Q (.new (((List.range n).filter p).map out), S)) : kLc us b mt me η Q (intsR 0 n, none, S) :=
  lc_filter (fun i : Nat => .int (0 + i)) (List.range n) p out rg0 trivial (by simpa using hl) (fun i hi => by rw [Int.zero_add]; exact ht i (List.mem_range.mp hi)) hQ
theorem lcN {ns : List Int} (out : Int → D) (hl : ns.length ≤ 16777216) (ht : ∀ i ∈ ns, ok (turnC b mt me (wipeE η us) S (.int i)) fun p => p = (some (out i), S)) (hQ : Q (.new (ns.map out), S)) : kLc us b mt me η Q (ns.map .int, none, S) :=
  lc_map PyData.int ns out rfl trivial hl ht hQ
theorem lcNF {ns : List Int} (p : Int → Bool) (out : Int → D) (hl : ns.length ≤ 16777216) (ht : ∀ i ∈ ns, ok (turnC b mt me (wipeE η us) S (.int i)) fun q => q = (if p i = true then some (out i) else none, S)) (hQ : Q (.new ((ns.filter p).map out), S)) : kLc us b mt me η Q (ns.map .int, none, S) :=
  lc_filter PyData.int ns p out rfl trivial hl ht hQ
end
@[simp ↓] theorem w_intsD {ns : List Int} {Q : List Int → Prop} : ok (intsD (ns.map PyData.int)) Q ↔ Q ns := by
  have : intsD (ns.map PyData.int) = some ns := by rw [intsD_map' (fun i => i)]; simp
  rw [this, ok_some]
@[simp] theorem st_take1 {P T : Sto} {b : List D} : List.take (P.length + 1) (St P b T) = St P b [] := by
  rw [st_def, st_def, List.take_append, List.take_of_length_le (by omega)]
  have : P.length + 1 - P.length = 1 := by omega
  rw [this]; rfl
end BV
set_option Elab.async false
set_option linter.all false
set_option maxRecDepth 100000
set_option maxHeartbeats 4000000
namespace Pr
open PySem PySem.Spec PyProof.Rows L2 BV
def topS (i : Nat) : Stmt := PySem.Challenge.pw_overrows_k12_ranks_of_a_line.main.body.getD i (.Pass ⟨0, 0, 0, 0⟩)
abbrev c_OFFSETS : List D := (["earlier", "later", "first", "last", "nth"] : List Str).map .str
abbrev c_RANKS : List D := (["row", "rank", "dense", "percent", "share", "tile"] : List Str).map .str
abbrev s_law_box : Stmt := topS 16
theorem sc_law_box : FnScope ["_law_script", "_law_k", "_law_cell"] ["_law_script", "_law_k"] (defScope s_law_box) := ⟨rfl, rfl, rfl, by decide +kernel, rfl, by decide +kernel, by decide +kernel⟩
noncomputable abbrev m_law_box : MS := mSeq (mSet 2 (mIf (mTest (mOp fLt (mVar 1) (mCall fLen (mCons (mVar 0) (mNil))))) (mOp fIx (mVar 0) (mVar 1)) (mDat (.int 0)))) (mRet (mLst (mCons (mOp fMul (mCall fAbs (mCons (mVar 2) (mNil))) (mCall fInt (mCons (mOp fGe (mCall fAbs (mCons (mVar 2) (mNil))) (mOp fPow (mDat (.int 10)) (mDat (.int 18)))) (mNil)))) (mCons (mOp fAdd (mOp fAdd (mOp fMod (mVar 2) (mDat (.int 2305843009213693951))) (mOp fMul (mDat (.int 39373)) (mVar 1))) (mDat (.int 71))) (mCons (mDat (.int 0)) (mNil))))))
@[irreducible] noncomputable def F_law_box : MF := bodyF 3 m_law_box
abbrev s_law_take : Stmt := topS 17
theorem sc_law_take : FnScope ["_law_box_here", "_law_below", "_law_once", "_law_twice", "_law_found"] ["_law_box_here", "_law_below"] (defScope s_law_take) := ⟨rfl, rfl, rfl, by decide +kernel, rfl, by decide +kernel, by decide +kernel⟩
noncomputable abbrev m_law_take (rec : MF) : MS := mSeq (mIfS (mTest (mOp fGt (mOp fIx (mVar 0) (mDat (.int 0))) (mDat (.int 0)))) (mSeq (mSet 4 (mOp fMod (mOp fIx (mVar 0) (mDat (.int 0))) (mVar 1))) (mSeq (mPut (mOp fDiv (mOp fIx (mVar 0) (mDat (.int 0))) (mVar 1)) (mVar 0) (mDat (.int 0))) (mRet (mVar 4)))) (mNext)) (mSeq (mIfS (mTest (mOp fGt (mVar 1) (mOp fPow (mDat (.int 10)) (mDat (.int 7))))) (mRet (mOp fMod (mOp fAdd (mFn 2 (rec) (mCons (mVar 0) (mCons (mOp fPow (mDat (.int 10)) (mDat (.int 7))) (mNil)))) (mOp fMul (mOp fPow (mDat (.int 10)) (mDat (.int 7))) (mFn 2 (rec) (mCons (mVar 0) (mCons (mOp fAdd (mOp fDiv (mOp fSub (mVar 1) (mDat (.int 1))) (mOp fPow (mDat (.int 10)) (mDat (.int 7)))) (mDat (.int 1))) (mNil)))))) (mVar 1))) (mNext)) (mSeq (mPut (mOp fAdd (mOp fIx (mVar 0) (mDat (.int 2))) (mDat (.int 1))) (mVar 0) (mDat (.int 2))) (mSeq (mSet 2 (mOp fMod (mOp fMul (mOp fAdd (mOp fIx (mVar 0) (mDat (.int 1))) (mOp fMul (mDat (.int 48271)) (mOp fIx (mVar 0) (mDat (.int 2))))) (mOp fAdd (mDat (.int 39373)) (mOp fIx (mVar 0) (mDat (.int 2))))) (mDat (.int 2147483647)))) (mSeq (mSet 3 (mOp fMod (mOp fMul (mOp fAdd (mOp fAdd (mVar 2) (mOp fIx (mVar 0) (mDat (.int 2)))) (mOp fDiv (mOp fIx (mVar 0) (mDat (.int 1))) (mDat (.int 1000003)))) (mOp fAdd (mOp fMod (mVar 2) (mDat (.int 40009))) (mDat (.int 7)))) (mDat (.int 2147483629)))) (mRet (mOp fMod (mOp fDiv (mOp fMod (mOp fAdd (mOp fMul (mVar 3) (mDat (.int 48271))) (mVar 2)) (mDat (.int 2147483587))) (mDat (.int 64))) (mVar 1)))))))
noncomputable def R_law_take : Nat → MF
  | 0 => fun _ _ => none
  | n + 1 => bodyF 5 (m_law_take (R_law_take n))
@[irreducible] noncomputable def F_law_take (n : Nat) : MF := R_law_take n
theorem F_law_take_0 : F_law_take 0 = fun _ _ => none := by unfold F_law_take; rfl
theorem F_law_take_s (n : Nat) : F_law_take (n + 1) = bodyF 5 (m_law_take (F_law_take n)) := by unfold F_law_take; rfl
abbrev s_law_of : Stmt := topS 18
theorem sc_law_of : FnScope ["_law_box_here", "_law_some"] ["_law_box_here", "_law_some"] (defScope s_law_of) := ⟨rfl, rfl, rfl, by decide +kernel, rfl, by decide +kernel, by decide +kernel⟩
noncomputable abbrev m_law_of : MS := mRet (mOp fIx (mVar 1) (mFn 2 (F_law_take 2) (mCons (mVar 0) (mCons (mCall fLen (mCons (mVar 1) (mNil))) (mNil)))))
@[irreducible] noncomputable def F_law_of : MF := bodyF 2 m_law_of
abbrev s_law_due : Stmt := topS 24
theorem sc_law_due : FnScope ["_law_word", "_law_groups_so", "_law_spot", "_law_every", "_law_own", "_law_ahead", "_law_behind", "_law_group_so"] ["_law_word", "_law_groups_so", "_law_spot"] (defScope s_law_due) := ⟨rfl, rfl, rfl, by decide +kernel, rfl, by decide +kernel, by decide +kernel⟩
noncomputable abbrev m_law_due : MS := mSeq (mPar [(3, false), (4, false)] (mCons (mCall fLen (mCons (mVar 1) (mNil))) (mCons (mOp fIx (mVar 1) (mVar 2)) (mNil)))) (mSeq (mSet 5 (mCall fLen (mCons (mLc [7] (mWalk (mVar 1)) (bName 7) (mTest (mOp fLt (mVar 7) (mVar 4))) (mVar 7)) (mNil)))) (mSeq (mSet 6 (mCall fLen (mCons (mLc [7] (mWalk (mVar 1)) (bName 7) (mTest (mOp fGt (mVar 7) (mVar 4))) (mVar 7)) (mNil)))) (mSeq (mIfS (mTest (mOp (fIn false) (mVar 0) (mTup (mCons (mDat (.str "row")) (mCons (mDat (.str "tile")) (mNil)))))) (mRet (mIf (mTest (mOp (fEq false) (mVar 0) (mDat (.str "row")))) (mTup (mCons (mVar 2) (mNil))) (mTup (mCons (mVar 2) (mCons (mVar 3) (mNil)))))) (mNext)) (mSeq (mIfS (mTest (mOp (fEq false) (mVar 0) (mDat (.str "dense")))) (mRet (mTup (mCons (mLsI (mLc [7] (mWalk (mVar 1)) (bName 7) (mTest (mOp fLt (mVar 7) (mVar 4))) (mVar 7))) (mNil)))) (mNext)) (mSeq (mIfS (mTest (mOp (fEq false) (mVar 0) (mDat (.str "share")))) (mRet (mTup (mCons (mOp fSub (mVar 3) (mVar 6)) (mCons (mVar 3) (mNil))))) (mNext)) (mRet (mIf (mTest (mOp (fEq false) (mVar 0) (mDat (.str "rank")))) (mTup (mCons (mVar 5) (mNil))) (mTup (mCons (mVar 5) (mCons (mVar 3) (mNil)))))))))))
@[irreducible] noncomputable def F_law_due : MF := bodyF 8 m_law_due
abbrev s_rank_look : Stmt := topS 3
theorem sc_rank_look : FnScope ["function", "groups", "place", "rows", "ahead_of_peers"] ["function", "groups", "place"] (defScope s_rank_look) := ⟨rfl, rfl, rfl, by decide +kernel, rfl, by decide +kernel, by decide +kernel⟩
noncomputable abbrev m_rank_look : MS := mSeq (mSet 3 (mCall fLen (mCons (mVar 1) (mNil)))) (mSeq (mSet 4 (mMeth1 isL fIndex (mVar 1) (mOp fIx (mVar 1) (mVar 2)))) (mSeq (mIfS (mTest (mOp (fEq false) (mVar 0) (mDat (.str "row")))) (mRet (mTup (mCons (mVar 2) (mNil)))) (mNext)) (mSeq (mIfS (mTest (mOp (fEq false) (mVar 0) (mDat (.str "rank")))) (mRet (mTup (mCons (mVar 4) (mNil)))) (mNext)) (mSeq (mIfS (mTest (mOp (fEq false) (mVar 0) (mDat (.str "dense")))) (mRet (mTup (mCons (mOp fIx (mVar 1) (mVar 2)) (mNil)))) (mNext)) (mSeq (mIfS (mTest (mOp (fEq false) (mVar 0) (mDat (.str "percent")))) (mRet (mTup (mCons (mVar 4) (mCons (mVar 3) (mNil))))) (mNext)) (mSeq (mIfS (mTest (mOp (fEq false) (mVar 0) (mDat (.str "share")))) (mRet (mTup (mCons (mOp fAdd (mVar 4) (mMeth1 isL fCount (mVar 1) (mOp fIx (mVar 1) (mVar 2)))) (mCons (mVar 3) (mNil))))) (mNext)) (mRet (mTup (mCons (mVar 2) (mCons (mVar 3) (mNil)))))))))))
@[irreducible] noncomputable def F_rank_look : MF := bodyF 5 m_rank_look
abbrev s_rank_looks : Stmt := topS 2
theorem sc_rank_looks : FnScope ["function", "line", "groups", "group", "_", "place"] ["function", "line"] (defScope s_rank_looks) := ⟨rfl, rfl, rfl, by decide +kernel, rfl, by decide +kernel, by decide +kernel⟩
noncomputable abbrev m_rank_looks : MS := mSeq (mSet 2 (mLc [3, 4] (mWalk (mOp fIx (mVar 1) (mDat (.int 1)))) (bTup 2 (bCons (bName 3) (bCons (bName 4) (bNil)))) (mYes) (mVar 3))) (mRet (mLc [5] (mRange1 (mCons (mCall fLen (mCons (mVar 2) (mNil))) (mNil))) (bName 5) (mYes) (mFn 3 (F_rank_look) (mCons (mVar 0) (mCons (mVar 2) (mCons (mVar 5) (mNil)))))))
@[irreducible] noncomputable def F_rank_looks : MF := bodyF 6 m_rank_looks
abbrev s_law_same : Stmt := topS 19
theorem sc_law_same : FnScope ["_law_found", "_law_due_here", "_law_mine", "_law_its"] ["_law_found", "_law_due_here"] (defScope s_law_same) := ⟨rfl, rfl, rfl, by decide +kernel, rfl, by decide +kernel, by decide +kernel⟩
noncomputable abbrev m_law_same (rec : MF) : MS := mSeq (mIfS (mTru (mIsi ["list", "tuple"] (mVar 1))) (mSeq (mIfS (mOrT (mTest (mOp (fEq true) (mIsi ["list"] (mVar 0)) (mIsi ["list"] (mVar 1)))) (mTest (mOp (fEq true) (mIsi ["tuple"] (mVar 0)) (mIsi ["tuple"] (mVar 1))))) (mRet (mDat (.bool false))) (mNext)) (mRet (mAndV (mOp (fEq false) (mCall fLen (mCons (mVar 0) (mNil))) (mCall fLen (mCons (mVar 1) (mNil)))) (mCall (fAll fun bs => bs.all id) (mCons (mLc [2, 3] (mZip (mCons (mVar 0) (mCons (mVar 1) (mNil)))) (bTup 2 (bCons (bName 2) (bCons (bName 3) (bNil)))) (mYes) (mFn 2 (rec) (mCons (mVar 2) (mCons (mVar 3) (mNil))))) (mNil)))))) (mNext)) (mSeq (mIfS (mOrT (mTest (mOp (fIsN false) (mVar 1) (mDat .none))) (mTru (mIsi ["str", "bool"] (mVar 1)))) (mRet (mAndV (mOp (fEq false) (mVar 0) (mVar 1)) (mAndV (mOp (fEq false) (mIsi ["bool"] (mVar 0)) (mIsi ["bool"] (mVar 1))) (mOp (fEq false) (mOp (fIsN false) (mVar 0) (mDat .none)) (mOp (fIsN false) (mVar 1) (mDat .none)))))) (mNext)) (mRet (mAndV (mIsi ["int"] (mVar 0)) (mAndV (mNotV (mIsi ["bool"] (mVar 0))) (mOp (fEq false) (mVar 0) (mVar 1))))))
noncomputable def R_law_same : Nat → MF
  | 0 => fun _ _ => none
  | n + 1 => bodyF 4 (m_law_same (R_law_same n))
@[irreducible] noncomputable def F_law_same (n : Nat) : MF := R_law_same n
theorem F_law_same_0 : F_law_same 0 = fun _ _ => none := by unfold F_law_same; rfl
theorem F_law_same_s (n : Nat) : F_law_same (n + 1) = bodyF 4 (m_law_same (F_law_same n)) := by unfold F_law_same; rfl
abbrev s_law_mixed : Stmt := topS 23
theorem sc_law_mixed : FnScope ["_law_box_here", "_law_matter", "_law_some", "_law_bit"] ["_law_box_here", "_law_matter"] (defScope s_law_mixed) := ⟨rfl, rfl, rfl, by decide +kernel, rfl, by decide +kernel, by decide +kernel⟩
noncomputable abbrev m_law_mixed (rec : MF) : MS := mSeq (mSet 2 (mIf (mTru (mIsi ["list", "tuple"] (mVar 1))) (mLc [3] (mWalk (mVar 1)) (bName 3) (mYes) (mFn 2 (rec) (mCons (mVar 0) (mCons (mVar 3) (mNil))))) (mVar 1))) (mRet (mIf (mAndT (mTru (mIsi ["list"] (mVar 2))) (mTest (mOp fGt (mFn 2 (F_law_take 2) (mCons (mVar 0) (mCons (mDat (.int 2)) (mNil)))) (mDat (.int 0))))) (mCall fTupOf (mCons (mVar 2) (mNil))) (mVar 2)))
noncomputable def R_law_mixed : Nat → MF
  | 0 => fun _ _ => none
  | n + 1 => bodyF 4 (m_law_mixed (R_law_mixed n))
@[irreducible] noncomputable def F_law_mixed (n : Nat) : MF := R_law_mixed n
theorem F_law_mixed_0 : F_law_mixed 0 = fun _ _ => none := by unfold F_law_mixed; rfl
theorem F_law_mixed_s (n : Nat) : F_law_mixed (n + 1) = bodyF 4 (m_law_mixed (F_law_mixed n)) := by unfold F_law_mixed; rfl
abbrev s_fraction : Stmt := topS 5
theorem sc_fraction : FnScope ["numerator", "denominator", "divisor"] ["numerator", "denominator"] (defScope s_fraction) := ⟨rfl, rfl, rfl, by decide +kernel, rfl, by decide +kernel, by decide +kernel⟩
noncomputable abbrev m_fraction : MS := mSeq (mSet 2 (mCall fGcd (mCons (mVar 0) (mCons (mVar 1) (mNil))))) (mRet (mTup (mCons (mOp fDiv (mVar 0) (mVar 2)) (mCons (mOp fDiv (mVar 1) (mVar 2)) (mNil)))))
@[irreducible] noncomputable def F_fraction : MF := bodyF 3 m_fraction
abbrev s_sum_value : Stmt := topS 10
theorem sc_sum_value : FnScope ["function", "taken"] ["function", "taken"] (defScope s_sum_value) := ⟨rfl, rfl, rfl, by decide +kernel, rfl, by decide +kernel, by decide +kernel⟩
noncomputable abbrev m_sum_value : MS := mSeq (mIfS (mTest (mOp (fEq false) (mVar 0) (mDat (.str "count")))) (mRet (mCall fLen (mCons (mVar 1) (mNil)))) (mNext)) (mSeq (mIfS (mTest (mOp (fEq false) (mCall fLen (mCons (mVar 1) (mNil))) (mDat (.int 0)))) (mRet (mDat .none)) (mNext)) (mSeq (mIfS (mTest (mOp (fEq false) (mVar 0) (mDat (.str "joined")))) (mRet (mJoin (mDat (.str ",")) (mVar 1))) (mNext)) (mSeq (mIfS (mTest (mOp (fEq false) (mVar 0) (mDat (.str "least")))) (mRet (mCall (fBest W.minD) (mCons (mVar 1) (mNil)))) (mNext)) (mSeq (mIfS (mTest (mOp (fEq false) (mVar 0) (mDat (.str "most")))) (mRet (mCall (fBest W.maxD) (mCons (mVar 1) (mNil)))) (mNext)) (mRet (mIf (mTest (mOp (fEq false) (mVar 0) (mDat (.str "sum")))) (mCall fSum (mCons (mVar 1) (mNil))) (mFn 2 (F_fraction) (mCons (mCall fSum (mCons (mVar 1) (mNil))) (mCons (mCall fLen (mCons (mVar 1) (mNil))) (mNil))))))))))
@[irreducible] noncomputable def F_sum_value : MF := bodyF 2 m_sum_value
abbrev s_tile : Stmt := topS 12
theorem sc_tile : FnScope ["tiles", "ahead", "rows", "least", "longer_tiles", "in_longer_tiles"] ["tiles", "ahead", "rows"] (defScope s_tile) := ⟨rfl, rfl, rfl, by decide +kernel, rfl, by decide +kernel, by decide +kernel⟩
noncomputable abbrev m_tile : MS := mSeq (mAsg (bTup 2 (bCons (bName 3) (bCons (bName 4) (bNil)))) (mCall fDivmod (mCons (mVar 2) (mCons (mVar 0) (mNil))))) (mSeq (mSet 5 (mOp fMul (mVar 4) (mOp fAdd (mVar 3) (mDat (.int 1))))) (mSeq (mIfS (mTest (mOp fLt (mVar 1) (mVar 5))) (mRet (mOp fAdd (mOp fDiv (mVar 1) (mOp fAdd (mVar 3) (mDat (.int 1)))) (mDat (.int 1)))) (mNext)) (mRet (mOp fAdd (mOp fAdd (mVar 4) (mOp fDiv (mOp fSub (mVar 1) (mVar 5)) (mVar 3))) (mDat (.int 1))))))
@[irreducible] noncomputable def F_tile : MF := bodyF 6 m_tile
abbrev s_rank_value : Stmt := topS 11
theorem sc_rank_value : FnScope ["function", "arguments", "look"] ["function", "arguments", "look"] (defScope s_rank_value) := ⟨rfl, rfl, rfl, by decide +kernel, rfl, by decide +kernel, by decide +kernel⟩
noncomputable abbrev m_rank_value : MS := mSeq (mIfS (mTest (mOp (fEq false) (mVar 0) (mDat (.str "percent")))) (mRet (mIf (mTest (mOp fGt (mOp fIx (mVar 2) (mDat (.int 1))) (mDat (.int 1)))) (mFn 2 (F_fraction) (mCons (mOp fIx (mVar 2) (mDat (.int 0))) (mCons (mOp fSub (mOp fIx (mVar 2) (mDat (.int 1))) (mDat (.int 1))) (mNil)))) (mTup (mCons (mDat (.int 0)) (mCons (mDat (.int 1)) (mNil)))))) (mNext)) (mSeq (mIfS (mTest (mOp (fEq false) (mVar 0) (mDat (.str "share")))) (mRet (mFn 2 (F_fraction) (mCons (mOp fIx (mVar 2) (mDat (.int 0))) (mCons (mOp fIx (mVar 2) (mDat (.int 1))) (mNil))))) (mNext)) (mSeq (mIfS (mTest (mOp (fEq false) (mVar 0) (mDat (.str "tile")))) (mRet (mFn 3 (F_tile) (mCons (mOp fIx (mVar 1) (mDat (.int 0))) (mCons (mOp fIx (mVar 2) (mDat (.int 0))) (mCons (mOp fIx (mVar 2) (mDat (.int 1))) (mNil)))))) (mNext)) (mRet (mOp fAdd (mOp fIx (mVar 2) (mDat (.int 0))) (mDat (.int 1))))))
@[irreducible] noncomputable def F_rank_value : MF := bodyF 3 m_rank_value
abbrev s_offset_value : Stmt := topS 13
theorem sc_offset_value : FnScope ["function", "arguments", "look"] ["function", "arguments", "look"] (defScope s_offset_value) := ⟨rfl, rfl, rfl, by decide +kernel, rfl, by decide +kernel, by decide +kernel⟩
noncomputable abbrev m_offset_value : MS := mSeq (mIfS (mTest (mOp fGt (mCall fLen (mCons (mVar 2) (mNil))) (mDat (.int 0)))) (mRet (mOp fIx (mVar 2) (mDat (.int 0)))) (mNext)) (mRet (mIf (mTest (mOp (fIn false) (mVar 0) (mTup (mCons (mDat (.str "earlier")) (mCons (mDat (.str "later")) (mNil)))))) (mOp fIx (mVar 1) (mDat (.int 2))) (mDat .none)))
@[irreducible] noncomputable def F_offset_value : MF := bodyF 3 m_offset_value
abbrev s_counted : Stmt := topS 14
theorem sc_counted : FnScope ["arguments", "look", "value"] ["arguments", "look"] (defScope s_counted) := ⟨rfl, rfl, rfl, by decide +kernel, rfl, by decide +kernel, by decide +kernel⟩
noncomputable abbrev m_counted : MS := mSeq (mIfS (mTest (mOp fLt (mCall fLen (mCons (mVar 0) (mNil))) (mDat (.int 2)))) (mRet (mCall fLstOf (mCons (mVar 1) (mNil)))) (mNext)) (mRet (mUniq [2] (mWalk (mVar 1)) (bName 2) (mYes) (mVar 2) (mDat (.bool true))))
@[irreducible] noncomputable def F_counted : MF := bodyF 3 m_counted
abbrev s_call_value : Stmt := topS 9
theorem sc_call_value : FnScope ["call", "look", "function", "arguments"] ["call", "look"] (defScope s_call_value) := ⟨rfl, rfl, rfl, by decide +kernel, rfl, by decide +kernel, by decide +kernel⟩
noncomputable abbrev m_call_value : MS := mSeq (mAsg (bTup 2 (bCons (bName 2) (bCons (bName 3) (bNil)))) (mVar 0)) (mSeq (mIfS (mTest (mOp (fIn false) (mVar 2) (mDat (.tuple [.str "row", .str "rank", .str "dense", .str "percent", .str "share", .str "tile"])))) (mRet (mFn 3 (F_rank_value) (mCons (mVar 2) (mCons (mVar 3) (mCons (mVar 1) (mNil)))))) (mNext)) (mSeq (mIfS (mTest (mOp (fIn false) (mVar 2) (mDat (.tuple [.str "earlier", .str "later", .str "first", .str "last", .str "nth"])))) (mRet (mFn 3 (F_offset_value) (mCons (mVar 2) (mCons (mVar 3) (mCons (mVar 1) (mNil)))))) (mNext)) (mRet (mFn 2 (F_sum_value) (mCons (mVar 2) (mCons (mFn 2 (F_counted) (mCons (mVar 3) (mCons (mVar 1) (mNil)))) (mNil)))))))
@[irreducible] noncomputable def F_call_value : MF := bodyF 4 m_call_value
abbrev s_law_tile : Stmt := topS 21
theorem sc_law_tile : FnScope ["_law_n", "_law_ahead", "_law_every", "_law_sizes", "_law_found", "_law_k"] ["_law_n", "_law_ahead", "_law_every"] (defScope s_law_tile) := ⟨rfl, rfl, rfl, by decide +kernel, rfl, by decide +kernel, by decide +kernel⟩
noncomputable abbrev m_law_tile : MS := mSeq (mSet 3 (mLc [5] (mRange1 (mCons (mVar 0) (mNil))) (bName 5) (mYes) (mOp fAdd (mOp fDiv (mVar 2) (mVar 0)) (mCall fInt (mCons (mOp fLt (mVar 5) (mOp fMod (mVar 2) (mVar 0))) (mNil)))))) (mSeq (mSet 4 (mDat (.int 0))) (mSeq (whileF (mTest (mOp fGe (mVar 1) (mCall fSum (mCons (mCut (mVar 3) (oNone) (oSome (mOp fAdd (mVar 4) (mDat (.int 1))))) (mNil))))) (mSet 4 (mOp fAdd (mVar 4) (mDat (.int 1)))) wfuel) (mRet (mOp fAdd (mVar 4) (mDat (.int 1))))))
@[irreducible] noncomputable def F_law_tile : MF := bodyF 6 m_law_tile
abbrev s_law_lowest : Stmt := topS 20
theorem sc_law_lowest : FnScope ["_law_above", "_law_under", "_law_high", "_law_low"] ["_law_above", "_law_under"] (defScope s_law_lowest) := ⟨rfl, rfl, rfl, by decide +kernel, rfl, by decide +kernel, by decide +kernel⟩
noncomputable abbrev m_law_lowest : MS := mSeq (mPar [(2, false), (3, false)] (mCons (mVar 1) (mCons (mCall fAbs (mCons (mVar 0) (mNil))) (mNil)))) (mSeq (whileF (mTest (mOp fGt (mVar 3) (mDat (.int 0)))) (mPar [(2, false), (3, false)] (mCons (mVar 3) (mCons (mOp fMod (mVar 2) (mVar 3)) (mNil)))) wfuel) (mRet (mTup (mCons (mOp fDiv (mVar 0) (mVar 2)) (mCons (mOp fDiv (mVar 1) (mVar 2)) (mNil))))))
@[irreducible] noncomputable def F_law_lowest : MF := bodyF 4 m_law_lowest
abbrev s_law_value : Stmt := topS 22
theorem sc_law_value : FnScope ["_law_deed", "_law_sight", "_law_word", "_law_some", "_law_less", "_law_at", "_law_bit"] ["_law_deed", "_law_sight"] (defScope s_law_value) := ⟨rfl, rfl, rfl, by decide +kernel, rfl, by decide +kernel, by decide +kernel⟩
noncomputable abbrev m_law_value : MS := mSeq (mPar [(2, false), (3, false)] (mCons (mOp fIx (mVar 0) (mDat (.int 0))) (mCons (mCall fLstOf (mCons (mVar 1) (mNil))) (mNil)))) (mSeq (mIfS (mTest (mOp (fIn false) (mVar 2) (mTup (mCons (mDat (.str "row")) (mCons (mDat (.str "rank")) (mCons (mDat (.str "dense")) (mNil))))))) (mRet (mOp fAdd (mOp fIx (mVar 3) (mDat (.int 0))) (mDat (.int 1)))) (mNext)) (mSeq (mIfS (mTest (mOp (fIn false) (mVar 2) (mTup (mCons (mDat (.str "percent")) (mCons (mDat (.str "share")) (mNil)))))) (mSeq (mSet 4 (mCall fInt (mCons (mOp (fEq false) (mVar 2) (mDat (.str "percent"))) (mNil)))) (mRet (mIf (mTest (mOp fGt (mOp fIx (mVar 3) (mDat (.int 1))) (mVar 4))) (mFn 2 (F_law_lowest) (mCons (mOp fIx (mVar 3) (mDat (.int 0))) (mCons (mOp fSub (mOp fIx (mVar 3) (mDat (.int 1))) (mVar 4)) (mNil)))) (mTup (mCons (mDat (.int 0)) (mCons (mDat (.int 1)) (mNil))))))) (mNext)) (mSeq (mIfS (mTest (mOp (fEq false) (mVar 2) (mDat (.str "tile")))) (mRet (mFn 3 (F_law_tile) (mCons (mOp fIx (mOp fIx (mVar 0) (mDat (.int 1))) (mDat (.int 0))) (mCons (mOp fIx (mVar 3) (mDat (.int 0))) (mCons (mOp fIx (mVar 3) (mDat (.int 1))) (mNil)))))) (mNext)) (mSeq (mIfS (mTest (mOp (fIn false) (mVar 2) (mTup (mCons (mDat (.str "earlier")) (mCons (mDat (.str "later")) (mCons (mDat (.str "first")) (mCons (mDat (.str "last")) (mCons (mDat (.str "nth")) (mNil))))))))) (mRet (mIf (mTest (mOp (fEq true) (mVar 3) (mLst (mNil)))) (mOp fIx (mVar 3) (mDat (.int 0))) (mIf (mTest (mOp (fIn false) (mVar 2) (mTup (mCons (mDat (.str "earlier")) (mCons (mDat (.str "later")) (mNil)))))) (mOp fIx (mOp fIx (mVar 0) (mDat (.int 1))) (mDat (.int 2))) (mDat .none)))) (mNext)) (mSeq (mIfS (mTest (mOp (fEq false) (mCut (mOp fIx (mVar 0) (mDat (.int 1))) (oSome (mDat (.int 1))) (oNone)) (mTup (mCons (mDat (.str "unlike")) (mNil))))) (mSet 3 (mLc [5, 6] (mEnum (mVar 1)) (bTup 2 (bCons (bName 5) (bCons (bName 6) (bNil)))) (mTest (mOp (fIn true) (mVar 6) (mCut (mVar 1) (oNone) (oSome (mVar 5))))) (mVar 6))) (mNext)) (mSeq (mIfS (mOrT (mTest (mOp (fEq false) (mVar 2) (mDat (.str "count")))) (mTest (mOp (fEq false) (mVar 3) (mLst (mNil))))) (mRet (mIf (mTest (mOp (fEq false) (mVar 2) (mDat (.str "count")))) (mCall fLen (mCons (mVar 3) (mNil))) (mDat .none))) (mNext)) (mSeq (mIfS (mTest (mOp (fEq false) (mVar 2) (mDat (.str "joined")))) (mRet (mJoin (mDat (.str ",")) (mVar 3))) (mNext)) (mSeq (mIfS (mTest (mOp (fIn false) (mVar 2) (mTup (mCons (mDat (.str "least")) (mCons (mDat (.str "most")) (mNil)))))) (mRet (mIf (mTest (mOp (fEq false) (mVar 2) (mDat (.str "least")))) (mCall (fBest W.minD) (mCons (mVar 3) (mNil))) (mCall (fBest W.maxD) (mCons (mVar 3) (mNil))))) (mNext)) (mRet (mIf (mTest (mOp (fEq false) (mVar 2) (mDat (.str "sum")))) (mCall fSum (mCons (mVar 3) (mNil))) (mFn 2 (F_law_lowest) (mCons (mCall fSum (mCons (mVar 3) (mNil))) (mCons (mCall fLen (mCons (mVar 3) (mNil))) (mNil))))))))))))))
@[irreducible] noncomputable def F_law_value : MF := bodyF 7 m_law_value
abbrev s_law_right : Stmt := topS 25
theorem sc_law_right : FnScope ["_law_box_here", "_law_groups_so", "_law_k", "_law_numbered", "_law_way", "_law_bits", "_law_word", "_law_due_here", "_law_told", "_law_sight", "_law_many", "_law_spot"] ["_law_box_here"] (defScope s_law_right) := ⟨rfl, rfl, rfl, by decide +kernel, rfl, by decide +kernel, by decide +kernel⟩
noncomputable abbrev m_law_right : MS := mSeq (mSet 1 (mLst (mNil))) (mSeq (mFor (mRange1 (mCons (mOp fAdd (mDat (.int 1)) (mFn 2 (F_law_take 2) (mCons (mVar 0) (mCons (mDat (.int 8)) (mNil))))) (mNil))) (bName 2) (mSet 1 (mOp fAdd (mVar 1) (mOp fMul (mLst (mCons (mVar 2) (mNil))) (mOp fAdd (mDat (.int 1)) (mFn 2 (F_law_take 2) (mCons (mVar 0) (mCons (mDat (.int 5)) (mNil))))))))) (mSeq (mSet 3 (mOp (fEq false) (mFn 2 (F_law_take 2) (mCons (mVar 0) (mCons (mDat (.int 2)) (mNil)))) (mDat (.int 0)))) (mSeq (mSet 4 (mIf (mTru (mVar 3)) (mFn 2 (F_law_of) (mCons (mVar 0) (mCons (mLst (mCons (mDat (.str "up")) (mCons (mDat (.str "down")) (mNil)))) (mNil)))) (mDat (.str "up")))) (mSeq (mSet 5 (mTup (mCons (mVar 4) (mCons (mCall fTupOf (mCons (mLc [2] (mWalk (mVar 1)) (bName 2) (mYes) (mTup (mCons (mVar 2) (mCons (mIf (mTru (mVar 3)) (mOp fMul (mVar 2) (mOp fSub (mDat (.int 1)) (mOp fMul (mDat (.int 2)) (mCall fInt (mCons (mOp (fEq false) (mVar 4) (mDat (.str "down"))) (mNil)))))) (mDat .none)) (mNil))))) (mNil))) (mNil))))) (mSeq (mFor (mWalk (mTup (mCons (mDat (.str "row")) (mCons (mDat (.str "rank")) (mCons (mDat (.str "dense")) (mCons (mDat (.str "percent")) (mCons (mDat (.str "share")) (mCons (mDat (.str "tile")) (mNil))))))))) (bName 6) (mSeq (mSet 7 (mLc [11] (mRange1 (mCons (mCall fLen (mCons (mVar 1) (mNil))) (mNil))) (bName 11) (mYes) (mFn 3 (F_law_due) (mCons (mVar 6) (mCons (mVar 1) (mCons (mVar 11) (mNil))))))) (mSeq (mTri 8 (mCons (mFn 2 (F_rank_looks) (mCons (mVar 6) (mCons (mVar 5) (mNil)))) (mCons (mFnK 2 [1, 0] (F_rank_looks) (mCons (mFn 2 (F_law_mixed 4) (mCons (mVar 0) (mCons (mVar 5) (mNil)))) (mCons (mVar 6) (mNil)))) (mNil))) (mNotT (mTru (mFn 2 (F_law_same 6) (mCons (mVar 8) (mCons (mLst (mCons (mVar 7) (mCons (mVar 7) (mNil)))) (mNil)))))) "more") (mSeq (mIfS (mNotT (mTru (mFn 2 (F_law_same 6) (mCons (mFn 2 (F_rank_looks) (mCons (mVar 6) (mCons (mVar 5) (mNil)))) (mCons (mVar 7) (mNil)))))) (mRet (mDat (.bool false))) (mNext)) (mFor (mWalk (mVar 7)) (bName 9) (mFor (mWalk (mIf (mTest (mOp (fEq true) (mVar 6) (mDat (.str "tile")))) (mLst (mCons (mTup (mNil)) (mNil))) (mLst (mCons (mTup (mCons (mDat (.int 1)) (mNil))) (mCons (mTup (mCons (mDat (.int 2)) (mNil))) (mCons (mTup (mCons (mDat (.int 50)) (mNil))) (mCons (mTup (mCons (mOp fAdd (mDat (.int 1)) (mFn 2 (F_law_take 2) (mCons (mVar 0) (mCons (mDat (.int 50)) (mNil))))) (mNil))) (mCons (mTup (mCons (mCall fLen (mCons (mVar 1) (mNil))) (mNil))) (mNil))))))))) (bName 10) (mSeq (mSet 8 (mLst (mCons (mFn 2 (F_call_value) (mCons (mTup (mCons (mVar 6) (mCons (mVar 10) (mNil)))) (mCons (mVar 9) (mNil)))) (mCons (mFnK 2 [1, 0] (F_call_value) (mCons (mCall fLstOf (mCons (mVar 9) (mNil))) (mCons (mLst (mCons (mVar 6) (mCons (mCall fLstOf (mCons (mVar 10) (mNil))) (mNil)))) (mNil)))) (mNil))))) (mIfS (mNotT (mTru (mFn 2 (F_law_same 6) (mCons (mVar 8) (mCons (mOp fMul (mLst (mCons (mFn 2 (F_law_value) (mCons (mTup (mCons (mVar 6) (mCons (mVar 10) (mNil)))) (mCons (mVar 9) (mNil)))) (mNil))) (mDat (.int 2))) (mNil)))))) (mRet (mDat (.bool false))) (mNext))))))))) (mRet (mDat (.bool true))))))))
@[irreducible] noncomputable def F_law_right : MF := bodyF 12 m_law_right
abbrev s_law : Stmt := topS 26
theorem sc_law : FnScope ["_law_script", "_law_k", "_law_box_here", "_law_turn"] ["_law_script"] (defScope s_law) := ⟨rfl, rfl, rfl, by decide +kernel, rfl, by decide +kernel, by decide +kernel⟩
noncomputable abbrev m_law : MS := mSeq (mFor (mRange1 (mCons (mOp fAdd (mDat (.int 1)) (mCall fMin (mCons (mDat (.int 3)) (mCons (mCall fLen (mCons (mVar 0) (mNil))) (mNil))))) (mNil))) (bName 1) (mSeq (mCell 2 (mFn 2 (F_law_box) (mCons (mVar 0) (mCons (mVar 1) (mNil))))) (mIfS (mNotT (mTru (mCall (fAll fun bs => bs.all id) (mCons (mLc [3] (mRange1 (mCons (mDat (.int 3)) (mNil))) (bName 3) (mYes) (mFn 1 (F_law_right) (mCons (mVar 2) (mNil)))) (mNil))))) (mRet (mDat (.bool false))) (mNext)))) (mRet (mDat (.bool true)))
@[irreducible] noncomputable def F_law : MF := bodyF 4 m_law
section
variable {P : Program} {w : World} {K : PySem.W.Frag} {mg : Str → Option Value} {base : Heap}
theorem own_law_box (L : Left K mg "_law_box" s_law_box ["_law_script", "_law_k"]) (z_abs : mg "abs" = none) (z_int : mg "int" = none) (z_len : mg "len" = none) : Own P w K mg base "_law_box" 2 ["_law_script", "_law_k"] F_law_box := by
  unfold F_law_box
  refine own_ok (n := 3) (m := m_law_box) L sc_law_box (by decide) (by decide) fun f cdv A outer s H E hG hr => ?_
  have hu := hu65 hr
  have nd := sc_law_box.nd
  exact ds_cons (ds_set nd rfl (.inl rfl) (de_if (dt_lt (de_var 1 rfl (.inl rfl)) (de_len (by rfl) z_len (da_cons (de_var 0 rfl (.inl rfl)) (da_nil)))) (de_idx (de_var 0 rfl (.inl rfl)) (de_var 1 rfl (.inl rfl))) (de_int))) (ds_one (ds_ret (de_lst (da_cons (de_mul (de_abs (by rfl) z_abs (da_cons (de_var 2 rfl (.inl rfl)) (da_nil))) (de_int1 (by rfl) z_int (da_cons (de_ge (de_abs (by rfl) z_abs (da_cons (de_var 2 rfl (.inl rfl)) (da_nil))) (de_pow (de_int) (de_int))) (da_nil)))) (da_cons (de_add (de_add (de_mod (de_var 2 rfl (.inl rfl)) (de_int)) (de_mul (de_int) (de_var 1 rfl (.inl rfl)))) (de_int)) (da_cons (de_int) (da_nil)))))))
theorem own_law_take (L : Left K mg "_law_take" s_law_take ["_law_box_here", "_law_below"]) : ∀ n, Own P w K mg base "_law_take" (1 + n) ["_law_box_here", "_law_below"] (F_law_take n) := by
  intro n
  induction n with
  | zero =>
    rw [F_law_take_0]
    exact own_none L
  | succ n orec =>
    rw [F_law_take_s]
    refine own_ok (k := 1 + n) (n := 5) (m := m_law_take (F_law_take n)) L sc_law_take (by decide) (by decide) fun f cdv A outer s H E hG hr => ?_
    have hu := hu65 hr
    have nd := sc_law_take.nd
    exact ds_cons (ds_if (dt_gt (de_idx (de_var 0 rfl (.inl rfl)) (de_int)) (de_int)) (ds_cons (ds_set nd rfl (.inl rfl) (de_mod (de_idx (de_var 0 rfl (.inl rfl)) (de_int)) (de_var 1 rfl (.inl rfl)))) (ds_cons (ds_put (de_div (de_idx (de_var 0 rfl (.inl rfl)) (de_int)) (de_var 1 rfl (.inl rfl))) (pg_sub (de_var 0 rfl (.inl rfl)) (de_int) set_list)) (ds_one (ds_ret (de_var 4 rfl (.inl rfl)))))) (ds_nil)) (ds_cons (ds_if (dt_gt (de_var 1 rfl (.inl rfl)) (de_pow (de_int) (de_int))) (ds_one (ds_ret (de_mod (de_add (de_own hG orec rfl hr (decide_eq_true (Nat.le_refl _)) (by rfl) (da_cons (de_var 0 rfl (.inl rfl)) (da_cons (de_pow (de_int) (de_int)) (da_nil)))) (de_mul (de_pow (de_int) (de_int)) (de_own hG orec rfl hr (decide_eq_true (Nat.le_refl _)) (by rfl) (da_cons (de_var 0 rfl (.inl rfl)) (da_cons (de_add (de_div (de_sub (de_var 1 rfl (.inl rfl)) (de_int)) (de_pow (de_int) (de_int))) (de_int)) (da_nil)))))) (de_var 1 rfl (.inl rfl))))) (ds_nil)) (ds_cons (ds_put (de_add (de_idx (de_var 0 rfl (.inl rfl)) (de_int)) (de_int)) (pg_sub (de_var 0 rfl (.inl rfl)) (de_int) set_list)) (ds_cons (ds_set nd rfl (.inl rfl) (de_mod (de_mul (de_add (de_idx (de_var 0 rfl (.inl rfl)) (de_int)) (de_mul (de_int) (de_idx (de_var 0 rfl (.inl rfl)) (de_int)))) (de_add (de_int) (de_idx (de_var 0 rfl (.inl rfl)) (de_int)))) (de_int))) (ds_cons (ds_set nd rfl (.inl rfl) (de_mod (de_mul (de_add (de_add (de_var 2 rfl (.inl rfl)) (de_idx (de_var 0 rfl (.inl rfl)) (de_int))) (de_div (de_idx (de_var 0 rfl (.inl rfl)) (de_int)) (de_int))) (de_add (de_mod (de_var 2 rfl (.inl rfl)) (de_int)) (de_int))) (de_int))) (ds_one (ds_ret (de_mod (de_div (de_mod (de_add (de_mul (de_var 3 rfl (.inl rfl)) (de_int)) (de_var 2 rfl (.inl rfl))) (de_int)) (de_int)) (de_var 1 rfl (.inl rfl)))))))))
theorem own_law_of (L : Left K mg "_law_of" s_law_of ["_law_box_here", "_law_some"]) (z_len : mg "len" = none) (o_law_take : Own P w K mg base "_law_take" 3 ["_law_box_here", "_law_below"] (F_law_take 2)) : Own P w K mg base "_law_of" 4 ["_law_box_here", "_law_some"] F_law_of := by
  unfold F_law_of
  refine own_ok (n := 2) (m := m_law_of) L sc_law_of (by decide) (by decide) fun f cdv A outer s H E hG hr => ?_
  have hu := hu65 hr
  have nd := sc_law_of.nd
  exact ds_one (ds_ret (de_idx (de_var 1 rfl (.inl rfl)) (de_own hG o_law_take rfl hr (by decide) (by rfl) (da_cons (de_var 0 rfl (.inl rfl)) (da_cons (de_len (by rfl) z_len (da_cons (de_var 1 rfl (.inl rfl)) (da_nil))) (da_nil))))))
theorem own_law_due (L : Left K mg "_law_due" s_law_due ["_law_word", "_law_groups_so", "_law_spot"]) (z_len : mg "len" = none) (z_set : mg "set" = none) : Own P w K mg base "_law_due" 2 ["_law_word", "_law_groups_so", "_law_spot"] F_law_due := by
  unfold F_law_due
  refine own_ok (n := 8) (m := m_law_due) L sc_law_due (by decide) (by decide) fun f cdv A outer s H E hG hr => ?_
  have hu := hu65 hr
  have nd := sc_law_due.nd
  exact ds_cons (ds_par rfl (da_cons (de_len (by rfl) z_len (da_cons (de_var 1 rfl (.inl rfl)) (da_nil))) (da_cons (de_idx (de_var 1 rfl (.inl rfl)) (de_var 2 rfl (.inl rfl))) (da_nil))) (pgs_cons (pg_name nd rfl (.inl rfl)) (pgs_cons (pg_name nd rfl (.inr rfl)) (pgs_nil)))) (ds_cons (ds_set nd rfl (.inl rfl) (de_len (by rfl) z_len (da_cons (de_lc [("_law_group_so", 7)] rfl nd (di_seq (de_var 1 rfl (.inl rfl))) (blkOk_by (N := ["_law_word", "_law_groups_so", "_law_spot", "_law_every", "_law_own", "_law_ahead", "_law_behind", "_law_group_so"]) (sc := defScope s_law_due) (by decide +kernel)) (fun _ _ _ _ _ => dg_name nd rfl (.inl rfl)) (fun _ _ _ _ _ => dts_one (dt_lt (de_var 7 rfl (.inl rfl)) (de_var 4 rfl (.inr (.inl rfl))))) (fun _ _ _ _ _ => de_var 7 rfl (.inl rfl))) (da_nil)))) (ds_cons (ds_set nd rfl (.inl rfl) (de_len (by rfl) z_len (da_cons (de_lc [("_law_group_so", 7)] rfl nd (di_seq (de_var 1 rfl (.inl rfl))) (blkOk_by (N := ["_law_word", "_law_groups_so", "_law_spot", "_law_every", "_law_own", "_law_ahead", "_law_behind", "_law_group_so"]) (sc := defScope s_law_due) (by decide +kernel)) (fun _ _ _ _ _ => dg_name nd rfl (.inl rfl)) (fun _ _ _ _ _ => dts_one (dt_gt (de_var 7 rfl (.inl rfl)) (de_var 4 rfl (.inr (.inl rfl))))) (fun _ _ _ _ _ => de_var 7 rfl (.inl rfl))) (da_nil)))) (ds_cons (ds_if (dt_in hu (de_var 0 rfl (.inl rfl)) (de_tup (da_cons (de_str) (da_cons (de_str) (da_nil))))) (ds_one (ds_ret (de_if (dt_eq hu (de_var 0 rfl (.inl rfl)) (de_str)) (de_tup (da_cons (de_var 2 rfl (.inl rfl)) (da_nil))) (de_tup (da_cons (de_var 2 rfl (.inl rfl)) (da_cons (de_var 3 rfl (.inl rfl)) (da_nil))))))) (ds_nil)) (ds_cons (ds_if (dt_eq hu (de_var 0 rfl (.inl rfl)) (de_str)) (ds_one (ds_ret (de_tup (da_cons (de_lsI rfl (by rfl) z_len (by rfl) z_set (de_lc [("_law_group_so", 7)] rfl nd (di_seq (de_var 1 rfl (.inl rfl))) (blkOk_by (N := ["_law_word", "_law_groups_so", "_law_spot", "_law_every", "_law_own", "_law_ahead", "_law_behind", "_law_group_so"]) (sc := defScope s_law_due) (by decide +kernel)) (fun _ _ _ _ _ => dg_name nd rfl (.inl rfl)) (fun _ _ _ _ _ => dts_one (dt_lt (de_var 7 rfl (.inl rfl)) (de_var 4 rfl (.inr (.inl rfl))))) (fun _ _ _ _ _ => de_var 7 rfl (.inl rfl)))) (da_nil))))) (ds_nil)) (ds_cons (ds_if (dt_eq hu (de_var 0 rfl (.inl rfl)) (de_str)) (ds_one (ds_ret (de_tup (da_cons (de_sub (de_var 3 rfl (.inl rfl)) (de_var 6 rfl (.inl rfl))) (da_cons (de_var 3 rfl (.inl rfl)) (da_nil)))))) (ds_nil)) (ds_one (ds_ret (de_if (dt_eq hu (de_var 0 rfl (.inl rfl)) (de_str)) (de_tup (da_cons (de_var 5 rfl (.inl rfl)) (da_nil))) (de_tup (da_cons (de_var 5 rfl (.inl rfl)) (da_cons (de_var 3 rfl (.inl rfl)) (da_nil))))))))))))
theorem own_rank_look (L : Left K mg "_rank_look" s_rank_look ["function", "groups", "place"]) (z_len : mg "len" = none) : Own P w K mg base "_rank_look" 2 ["function", "groups", "place"] F_rank_look := by
  unfold F_rank_look
  refine own_ok (n := 5) (m := m_rank_look) L sc_rank_look (by decide) (by decide) fun f cdv A outer s H E hG hr => ?_
  have hu := hu65 hr
  have nd := sc_rank_look.nd
  exact ds_cons (ds_set nd rfl (.inl rfl) (de_len (by rfl) z_len (da_cons (de_var 1 rfl (.inl rfl)) (da_nil)))) (ds_cons (ds_set nd rfl (.inl rfl) (de_index hu (de_var 1 rfl (.inl rfl)) (de_idx (de_var 1 rfl (.inl rfl)) (de_var 2 rfl (.inl rfl))))) (ds_cons (ds_if (dt_eq hu (de_var 0 rfl (.inl rfl)) (de_str)) (ds_one (ds_ret (de_tup (da_cons (de_var 2 rfl (.inl rfl)) (da_nil))))) (ds_nil)) (ds_cons (ds_if (dt_eq hu (de_var 0 rfl (.inl rfl)) (de_str)) (ds_one (ds_ret (de_tup (da_cons (de_var 4 rfl (.inl rfl)) (da_nil))))) (ds_nil)) (ds_cons (ds_if (dt_eq hu (de_var 0 rfl (.inl rfl)) (de_str)) (ds_one (ds_ret (de_tup (da_cons (de_idx (de_var 1 rfl (.inl rfl)) (de_var 2 rfl (.inl rfl))) (da_nil))))) (ds_nil)) (ds_cons (ds_if (dt_eq hu (de_var 0 rfl (.inl rfl)) (de_str)) (ds_one (ds_ret (de_tup (da_cons (de_var 4 rfl (.inl rfl)) (da_cons (de_var 3 rfl (.inl rfl)) (da_nil)))))) (ds_nil)) (ds_cons (ds_if (dt_eq hu (de_var 0 rfl (.inl rfl)) (de_str)) (ds_one (ds_ret (de_tup (da_cons (de_add (de_var 4 rfl (.inl rfl)) (de_count (de_var 1 rfl (.inl rfl)) (de_idx (de_var 1 rfl (.inl rfl)) (de_var 2 rfl (.inl rfl))))) (da_cons (de_var 3 rfl (.inl rfl)) (da_nil)))))) (ds_nil)) (ds_one (ds_ret (de_tup (da_cons (de_var 2 rfl (.inl rfl)) (da_cons (de_var 3 rfl (.inl rfl)) (da_nil))))))))))))
theorem own_rank_looks (L : LeftX K mg "rank_looks" s_rank_looks ["function", "line"] [(["line", "function"], [1, 0])]) (z_len : mg "len" = none) (z_range : mg "range" = none) (o_rank_look : Own P w K mg base "_rank_look" 2 ["function", "groups", "place"] (F_rank_look)) : OwnX P w K mg base "rank_looks" 3 ["function", "line"] [(["line", "function"], [1, 0])] F_rank_looks := by
  unfold F_rank_looks
  refine own_okX (n := 6) (m := m_rank_looks) L sc_rank_looks (by decide) (by decide) fun f cdv A outer s H E hG hr => ?_
  have hu := hu65 hr
  have nd := sc_rank_looks.nd
  exact ds_cons (ds_set nd rfl (.inr rfl) (de_lc [("group", 3), ("_", 4)] rfl nd (di_seq (de_idx (de_var 1 rfl (.inl rfl)) (de_int))) (blkOk_by (N := ["function", "line", "groups", "group", "_", "place"]) (sc := defScope s_rank_looks) (by decide +kernel)) (fun _ _ _ _ _ => dg_tup rfl (dg_cons (dg_name nd rfl (.inl rfl)) (dg_cons (dg_name nd rfl (.inl rfl)) (dg_nil)))) (fun _ _ _ _ _ => dts_nil) (fun _ _ _ _ _ => de_var 3 rfl (.inl rfl)))) (ds_one (ds_ret (de_lc [("place", 5)] rfl nd (di_range1 (by rfl) z_range (da_cons (de_len (by rfl) z_len (da_cons (de_var 2 rfl (.inr (.inl rfl))) (da_nil))) (da_nil))) (blkOk_by (N := ["function", "line", "groups", "group", "_", "place"]) (sc := defScope s_rank_looks) (by decide +kernel)) (fun _ _ _ _ _ => dg_name nd rfl (.inl rfl)) (fun _ _ _ _ _ => dts_nil) (fun _ _ _ _ _ => de_own hG o_rank_look rfl hr (by decide) (by rfl) (da_cons (de_var 0 rfl (.inr (.inl rfl))) (da_cons (de_var 2 rfl (.inr (.inl rfl))) (da_cons (de_var 5 rfl (.inl rfl)) (da_nil))))))))
theorem own_law_same (L : Left K mg "_law_same" s_law_same ["_law_found", "_law_due_here"]) (z_all : mg "all" = none) (z_bool : mg "bool" = none) (z_int : mg "int" = none) (z_isinstance : mg "isinstance" = none) (z_len : mg "len" = none) (z_list : mg "list" = none) (z_str : mg "str" = none) (z_tuple : mg "tuple" = none) (z_zip : mg "zip" = none) : ∀ n, Own P w K mg base "_law_same" (1 + n) ["_law_found", "_law_due_here"] (F_law_same n) := by
  intro n
  induction n with
  | zero =>
    rw [F_law_same_0]
    exact own_none L
  | succ n orec =>
    rw [F_law_same_s]
    refine own_ok (k := 1 + n) (n := 4) (m := m_law_same (F_law_same n)) L sc_law_same (by decide) (by decide) fun f cdv A outer s H E hG hr => ?_
    have hu := hu65 hr
    have nd := sc_law_same.nd
    exact ds_cons (ds_if (dt_tru (de_isi2 "list" "tuple" "list" "tuple" (by simp) (by simp) (by decide +kernel) (by decide +kernel) (by rfl) z_isinstance (by rfl) z_list (by rfl) z_tuple (de_var 1 rfl (.inl rfl)))) (ds_cons (ds_if (PW.pt (dw_or (dt_ne hu (de_isi1 "list" "list" (by simp) (by decide +kernel) (by rfl) z_isinstance (by rfl) z_list (de_var 0 rfl (.inl rfl))) (de_isi1 "list" "list" (by simp) (by decide +kernel) (by rfl) z_isinstance (by rfl) z_list (de_var 1 rfl (.inl rfl)))) (dw_or1 (dt_ne hu (de_isi1 "tuple" "tuple" (by simp) (by decide +kernel) (by rfl) z_isinstance (by rfl) z_tuple (de_var 0 rfl (.inl rfl))) (de_isi1 "tuple" "tuple" (by simp) (by decide +kernel) (by rfl) z_isinstance (by rfl) z_tuple (de_var 1 rfl (.inl rfl))))))) (ds_one (ds_ret (de_bl))) (ds_nil)) (ds_one (ds_ret (de_and (de_eq hu (de_len (by rfl) z_len (da_cons (de_var 0 rfl (.inl rfl)) (da_nil))) (de_len (by rfl) z_len (da_cons (de_var 1 rfl (.inl rfl)) (da_nil)))) (de_one (de_all rfl (by rfl) z_all (da_cons (de_lc [("_law_mine", 2), ("_law_its", 3)] rfl nd (di_zip (by rfl) z_zip (da_cons (de_var 0 rfl (.inl rfl)) (da_cons (de_var 1 rfl (.inl rfl)) (da_nil)))) (blkOk_by (N := ["_law_found", "_law_due_here", "_law_mine", "_law_its"]) (sc := defScope s_law_same) (by decide +kernel)) (fun _ _ _ _ _ => dg_tup rfl (dg_cons (dg_name nd rfl (.inl rfl)) (dg_cons (dg_name nd rfl (.inl rfl)) (dg_nil)))) (fun _ _ _ _ _ => dts_nil) (fun _ _ _ _ _ => de_own hG orec rfl hr (decide_eq_true (Nat.le_refl _)) (by rfl) (da_cons (de_var 2 rfl (.inl rfl)) (da_cons (de_var 3 rfl (.inl rfl)) (da_nil))))) (da_nil)))))))) (ds_nil)) (ds_cons (ds_if (PW.pt (dw_or (dt_isN (de_var 1 rfl (.inl rfl)) (de_non)) (dw_or1 (dt_tru (de_isi2 "str" "bool" "str" "bool" (by simp) (by simp) (by decide +kernel) (by decide +kernel) (by rfl) z_isinstance (by rfl) z_str (by rfl) z_bool (de_var 1 rfl (.inl rfl))))))) (ds_one (ds_ret (de_and (de_eq hu (de_var 0 rfl (.inl rfl)) (de_var 1 rfl (.inl rfl))) (de_and (de_eq hu (de_isi1 "bool" "bool" (by simp) (by decide +kernel) (by rfl) z_isinstance (by rfl) z_bool (de_var 0 rfl (.inl rfl))) (de_isi1 "bool" "bool" (by simp) (by decide +kernel) (by rfl) z_isinstance (by rfl) z_bool (de_var 1 rfl (.inl rfl)))) (de_one (de_eq hu (de_isN (de_var 0 rfl (.inl rfl)) (de_non)) (de_isN (de_var 1 rfl (.inl rfl)) (de_non)))))))) (ds_nil)) (ds_one (ds_ret (de_and (de_isi1 "int" "int" (by simp) (by decide +kernel) (by rfl) z_isinstance (by rfl) z_int (de_var 0 rfl (.inl rfl))) (de_and (de_not (de_isi1 "bool" "bool" (by simp) (by decide +kernel) (by rfl) z_isinstance (by rfl) z_bool (de_var 0 rfl (.inl rfl)))) (de_one (de_eq hu (de_var 0 rfl (.inl rfl)) (de_var 1 rfl (.inl rfl)))))))))
theorem own_law_mixed (L : Left K mg "_law_mixed" s_law_mixed ["_law_box_here", "_law_matter"]) (z_isinstance : mg "isinstance" = none) (z_list : mg "list" = none) (z_tuple : mg "tuple" = none) (o_law_take : Own P w K mg base "_law_take" 3 ["_law_box_here", "_law_below"] (F_law_take 2)) : ∀ n, Own P w K mg base "_law_mixed" (3 + n) ["_law_box_here", "_law_matter"] (F_law_mixed n) := by
  intro n
  induction n with
  | zero =>
    rw [F_law_mixed_0]
    exact own_none L
  | succ n orec =>
    rw [F_law_mixed_s]
    refine own_ok (k := 3 + n) (n := 4) (m := m_law_mixed (F_law_mixed n)) L sc_law_mixed (by decide) (by decide) fun f cdv A outer s H E hG hr => ?_
    have hu := hu65 hr
    have nd := sc_law_mixed.nd
    exact ds_cons (ds_set nd rfl (.inl rfl) (de_if (dt_tru (de_isi2 "list" "tuple" "list" "tuple" (by simp) (by simp) (by decide +kernel) (by decide +kernel) (by rfl) z_isinstance (by rfl) z_list (by rfl) z_tuple (de_var 1 rfl (.inl rfl)))) (de_lc [("_law_bit", 3)] rfl nd (di_seq (de_var 1 rfl (.inl rfl))) (blkOk_by (N := ["_law_box_here", "_law_matter", "_law_some", "_law_bit"]) (sc := defScope s_law_mixed) (by decide +kernel)) (fun _ _ _ _ _ => dg_name nd rfl (.inl rfl)) (fun _ _ _ _ _ => dts_nil) (fun _ _ _ _ _ => de_own hG orec rfl hr (decide_eq_true (Nat.le_refl _)) (by rfl) (da_cons (de_var 0 rfl (.inr (.inl rfl))) (da_cons (de_var 3 rfl (.inl rfl)) (da_nil))))) (de_var 1 rfl (.inl rfl)))) (ds_one (ds_ret (de_if (PW.pt (dw_and (dt_tru (de_isi1 "list" "list" (by simp) (by decide +kernel) (by rfl) z_isinstance (by rfl) z_list (de_var 2 rfl (.inl rfl)))) (dw_and1 (dt_gt (de_own hG o_law_take rfl hr (decide_eq_true (show 3 ≤ 3 + n by omega)) (by rfl) (da_cons (de_var 0 rfl (.inr (.inl rfl))) (da_cons (de_int) (da_nil)))) (de_int))))) (de_tupOf (by rfl) z_tuple (da_cons (de_var 2 rfl (.inl rfl)) (da_nil))) (de_var 2 rfl (.inl rfl)))))
theorem own_fraction (L : Left K mg "fraction" s_fraction ["numerator", "denominator"]) (z_gcd : mg "gcd" = some (.builtin "math.gcd")) : Own P w K mg base "fraction" 2 ["numerator", "denominator"] F_fraction := by
  unfold F_fraction
  refine own_ok (n := 3) (m := m_fraction) L sc_fraction (by decide) (by decide) fun f cdv A outer s H E hG hr => ?_
  have hu := hu65 hr
  have nd := sc_fraction.nd
  exact ds_cons (ds_set nd rfl (.inl rfl) (de_gcd (by rfl) z_gcd (da_cons (de_var 0 rfl (.inl rfl)) (da_cons (de_var 1 rfl (.inl rfl)) (da_nil))))) (ds_one (ds_ret (de_tup (da_cons (de_div (de_var 0 rfl (.inl rfl)) (de_var 2 rfl (.inl rfl))) (da_cons (de_div (de_var 1 rfl (.inl rfl)) (de_var 2 rfl (.inl rfl))) (da_nil))))))
theorem own_sum_value (L : Left K mg "sum_value" s_sum_value ["function", "taken"]) (z_len : mg "len" = none) (z_max : mg "max" = none) (z_min : mg "min" = none) (z_sum : mg "sum" = none) (o_fraction : Own P w K mg base "fraction" 2 ["numerator", "denominator"] (F_fraction)) : Own P w K mg base "sum_value" 3 ["function", "taken"] F_sum_value := by
  unfold F_sum_value
  refine own_ok (n := 2) (m := m_sum_value) L sc_sum_value (by decide) (by decide) fun f cdv A outer s H E hG hr => ?_
  have hu := hu65 hr
  have nd := sc_sum_value.nd
  exact ds_cons (ds_if (dt_eq hu (de_var 0 rfl (.inl rfl)) (de_str)) (ds_one (ds_ret (de_len (by rfl) z_len (da_cons (de_var 1 rfl (.inl rfl)) (da_nil))))) (ds_nil)) (ds_cons (ds_if (dt_eq hu (de_len (by rfl) z_len (da_cons (de_var 1 rfl (.inl rfl)) (da_nil))) (de_int)) (ds_one (ds_ret (de_non))) (ds_nil)) (ds_cons (ds_if (dt_eq hu (de_var 0 rfl (.inl rfl)) (de_str)) (ds_one (ds_ret (de_join (de_str) (de_var 1 rfl (.inl rfl))))) (ds_nil)) (ds_cons (ds_if (dt_eq hu (de_var 0 rfl (.inl rfl)) (de_str)) (ds_one (ds_ret (de_min1 hu rfl (by rfl) z_min (da_cons (de_var 1 rfl (.inl rfl)) (da_nil))))) (ds_nil)) (ds_cons (ds_if (dt_eq hu (de_var 0 rfl (.inl rfl)) (de_str)) (ds_one (ds_ret (de_max1 hu rfl (by rfl) z_max (da_cons (de_var 1 rfl (.inl rfl)) (da_nil))))) (ds_nil)) (ds_one (ds_ret (de_if (dt_eq hu (de_var 0 rfl (.inl rfl)) (de_str)) (de_sum rfl (by rfl) z_sum (da_cons (de_var 1 rfl (.inl rfl)) (da_nil))) (de_own hG o_fraction rfl hr (by decide) (by rfl) (da_cons (de_sum rfl (by rfl) z_sum (da_cons (de_var 1 rfl (.inl rfl)) (da_nil))) (da_cons (de_len (by rfl) z_len (da_cons (de_var 1 rfl (.inl rfl)) (da_nil))) (da_nil)))))))))))
theorem own_tile (L : Left K mg "_tile" s_tile ["tiles", "ahead", "rows"]) (z_divmod : mg "divmod" = none) : Own P w K mg base "_tile" 2 ["tiles", "ahead", "rows"] F_tile := by
  unfold F_tile
  refine own_ok (n := 6) (m := m_tile) L sc_tile (by decide) (by decide) fun f cdv A outer s H E hG hr => ?_
  have hu := hu65 hr
  have nd := sc_tile.nd
  exact ds_cons (ds_asg (de_divmod (by rfl) z_divmod (da_cons (de_var 2 rfl (.inl rfl)) (da_cons (de_var 0 rfl (.inl rfl)) (da_nil)))) (dg_tup rfl (dg_cons (dg_name nd rfl (.inl rfl)) (dg_cons (dg_name nd rfl (.inl rfl)) (dg_nil))))) (ds_cons (ds_set nd rfl (.inl rfl) (de_mul (de_var 4 rfl (.inl rfl)) (de_add (de_var 3 rfl (.inl rfl)) (de_int)))) (ds_cons (ds_if (dt_lt (de_var 1 rfl (.inl rfl)) (de_var 5 rfl (.inl rfl))) (ds_one (ds_ret (de_add (de_div (de_var 1 rfl (.inl rfl)) (de_add (de_var 3 rfl (.inl rfl)) (de_int))) (de_int)))) (ds_nil)) (ds_one (ds_ret (de_add (de_add (de_var 4 rfl (.inl rfl)) (de_div (de_sub (de_var 1 rfl (.inl rfl)) (de_var 5 rfl (.inl rfl))) (de_var 3 rfl (.inl rfl)))) (de_int))))))
theorem own_rank_value (L : Left K mg "_rank_value" s_rank_value ["function", "arguments", "look"]) (o_fraction : Own P w K mg base "fraction" 2 ["numerator", "denominator"] (F_fraction)) (o_tile : Own P w K mg base "_tile" 2 ["tiles", "ahead", "rows"] (F_tile)) : Own P w K mg base "_rank_value" 3 ["function", "arguments", "look"] F_rank_value := by
  unfold F_rank_value
  refine own_ok (n := 3) (m := m_rank_value) L sc_rank_value (by decide) (by decide) fun f cdv A outer s H E hG hr => ?_
  have hu := hu65 hr
  have nd := sc_rank_value.nd
  exact ds_cons (ds_if (dt_eq hu (de_var 0 rfl (.inl rfl)) (de_str)) (ds_one (ds_ret (de_if (dt_gt (de_idx (de_var 2 rfl (.inl rfl)) (de_int)) (de_int)) (de_own hG o_fraction rfl hr (by decide) (by rfl) (da_cons (de_idx (de_var 2 rfl (.inl rfl)) (de_int)) (da_cons (de_sub (de_idx (de_var 2 rfl (.inl rfl)) (de_int)) (de_int)) (da_nil)))) (de_tup (da_cons (de_int) (da_cons (de_int) (da_nil))))))) (ds_nil)) (ds_cons (ds_if (dt_eq hu (de_var 0 rfl (.inl rfl)) (de_str)) (ds_one (ds_ret (de_own hG o_fraction rfl hr (by decide) (by rfl) (da_cons (de_idx (de_var 2 rfl (.inl rfl)) (de_int)) (da_cons (de_idx (de_var 2 rfl (.inl rfl)) (de_int)) (da_nil)))))) (ds_nil)) (ds_cons (ds_if (dt_eq hu (de_var 0 rfl (.inl rfl)) (de_str)) (ds_one (ds_ret (de_own hG o_tile rfl hr (by decide) (by rfl) (da_cons (de_idx (de_var 1 rfl (.inl rfl)) (de_int)) (da_cons (de_idx (de_var 2 rfl (.inl rfl)) (de_int)) (da_cons (de_idx (de_var 2 rfl (.inl rfl)) (de_int)) (da_nil))))))) (ds_nil)) (ds_one (ds_ret (de_add (de_idx (de_var 2 rfl (.inl rfl)) (de_int)) (de_int))))))
theorem own_offset_value (L : Left K mg "_offset_value" s_offset_value ["function", "arguments", "look"]) (z_len : mg "len" = none) : Own P w K mg base "_offset_value" 2 ["function", "arguments", "look"] F_offset_value := by
  unfold F_offset_value
  refine own_ok (n := 3) (m := m_offset_value) L sc_offset_value (by decide) (by decide) fun f cdv A outer s H E hG hr => ?_
  have hu := hu65 hr
  have nd := sc_offset_value.nd
  exact ds_cons (ds_if (dt_gt (de_len (by rfl) z_len (da_cons (de_var 2 rfl (.inl rfl)) (da_nil))) (de_int)) (ds_one (ds_ret (de_idx (de_var 2 rfl (.inl rfl)) (de_int)))) (ds_nil)) (ds_one (ds_ret (de_if (dt_in hu (de_var 0 rfl (.inl rfl)) (de_tup (da_cons (de_str) (da_cons (de_str) (da_nil))))) (de_idx (de_var 1 rfl (.inl rfl)) (de_int)) (de_non))))
theorem own_counted (L : Left K mg "_counted" s_counted ["arguments", "look"]) (z_len : mg "len" = none) (z_list : mg "list" = none) : Own P w K mg base "_counted" 2 ["arguments", "look"] F_counted := by
  unfold F_counted
  refine own_ok (n := 3) (m := m_counted) L sc_counted (by decide) (by decide) fun f cdv A outer s H E hG hr => ?_
  have hu := hu65 hr
  have nd := sc_counted.nd
  exact ds_cons (ds_if (dt_lt (de_len (by rfl) z_len (da_cons (de_var 0 rfl (.inl rfl)) (da_nil))) (de_int)) (ds_one (ds_ret (de_lstOf (by rfl) z_list (da_cons (de_var 1 rfl (.inl rfl)) (da_nil))))) (ds_nil)) (ds_one (ds_ret (de_uniq [("value", 2)] (by rfl) z_list rfl nd (di_seq (de_var 1 rfl (.inl rfl))) (blkOk_by (N := ["arguments", "look", "value"]) (sc := defScope s_counted) (by decide +kernel)) (fun _ _ _ _ _ => dg_name nd rfl (.inl rfl)) (fun _ _ _ _ _ => dts_nil) (fun _ _ _ _ _ => de_var 2 rfl (.inl rfl)) (fun _ _ _ _ _ => de_bl))))
theorem own_call_value (L : LeftX K mg "call_value" s_call_value ["call", "look"] [(["look", "call"], [1, 0])]) {d_OFFSETS : Addr} (t_OFFSETS : TupIs K d_OFFSETS c_OFFSETS) (g_OFFSETS : mg "OFFSETS" = some (.ref d_OFFSETS)) {d_RANKS : Addr} (t_RANKS : TupIs K d_RANKS c_RANKS) (g_RANKS : mg "RANKS" = some (.ref d_RANKS)) (o_sum_value : Own P w K mg base "sum_value" 3 ["function", "taken"] (F_sum_value)) (o_rank_value : Own P w K mg base "_rank_value" 3 ["function", "arguments", "look"] (F_rank_value)) (o_offset_value : Own P w K mg base "_offset_value" 2 ["function", "arguments", "look"] (F_offset_value)) (o_counted : Own P w K mg base "_counted" 2 ["arguments", "look"] (F_counted)) : OwnX P w K mg base "call_value" 4 ["call", "look"] [(["look", "call"], [1, 0])] F_call_value := by
  unfold F_call_value
  refine own_okX (n := 4) (m := m_call_value) L sc_call_value (by decide) (by decide) fun f cdv A outer s H E hG hr => ?_
  have hu := hu65 hr
  have nd := sc_call_value.nd
  exact ds_cons (ds_asg (de_var 0 rfl (.inl rfl)) (dg_tup rfl (dg_cons (dg_name nd rfl (.inl rfl)) (dg_cons (dg_name nd rfl (.inl rfl)) (dg_nil))))) (ds_cons (ds_if (dt_in hu (de_var 2 rfl (.inl rfl)) (de_gtup t_RANKS (by rfl) g_RANKS)) (ds_one (ds_ret (de_own hG o_rank_value rfl hr (by decide) (by rfl) (da_cons (de_var 2 rfl (.inl rfl)) (da_cons (de_var 3 rfl (.inl rfl)) (da_cons (de_var 1 rfl (.inl rfl)) (da_nil))))))) (ds_nil)) (ds_cons (ds_if (dt_in hu (de_var 2 rfl (.inl rfl)) (de_gtup t_OFFSETS (by rfl) g_OFFSETS)) (ds_one (ds_ret (de_own hG o_offset_value rfl hr (by decide) (by rfl) (da_cons (de_var 2 rfl (.inl rfl)) (da_cons (de_var 3 rfl (.inl rfl)) (da_cons (de_var 1 rfl (.inl rfl)) (da_nil))))))) (ds_nil)) (ds_one (ds_ret (de_own hG o_sum_value rfl hr (by decide) (by rfl) (da_cons (de_var 2 rfl (.inl rfl)) (da_cons (de_own hG o_counted rfl hr (by decide) (by rfl) (da_cons (de_var 3 rfl (.inl rfl)) (da_cons (de_var 1 rfl (.inl rfl)) (da_nil)))) (da_nil))))))))
theorem own_law_tile (L : Left K mg "_law_tile" s_law_tile ["_law_n", "_law_ahead", "_law_every"]) (z_int : mg "int" = none) (z_range : mg "range" = none) (z_sum : mg "sum" = none) : Own P w K mg base "_law_tile" 2 ["_law_n", "_law_ahead", "_law_every"] F_law_tile := by
  unfold F_law_tile
  refine own_ok (n := 6) (m := m_law_tile) L sc_law_tile (by decide) (by decide) fun f cdv A outer s H E hG hr => ?_
  have hu := hu65 hr
  have nd := sc_law_tile.nd
  exact ds_cons (ds_setLc [("_law_k", 5)] rfl nd rfl rfl (sw_true rfl rfl rfl (by decide +kernel)) (di_range1 (by rfl) z_range (da_cons (de_var 0 rfl (.inr (.inl rfl))) (da_nil))) (blkOk_by (N := ["_law_n", "_law_ahead", "_law_every", "_law_sizes", "_law_found", "_law_k"]) (sc := defScope s_law_tile) (by decide +kernel)) (fun _ _ _ _ _ => dg_name nd rfl (.inl rfl)) (fun _ _ _ _ _ => dts_nil) (fun _ _ _ _ _ => de_add (de_div (de_var 2 rfl (.inr (.inl rfl))) (de_var 0 rfl (.inr (.inl rfl)))) (de_int1 (by rfl) z_int (da_cons (de_lt (de_var 5 rfl (.inl rfl)) (de_mod (de_var 2 rfl (.inr (.inl rfl))) (de_var 0 rfl (.inr (.inl rfl))))) (da_nil))))) (ds_cons (ds_set nd rfl (.inl rfl) (de_int)) (ds_cons (ds_while PassesOwn.never (dt_ge (de_var 1 rfl (.inl rfl)) (de_sum rfl (by rfl) z_sum (da_cons (de_cut (de_var 3 rfl (.inl rfl)) (do_none) (do_some (de_add (de_var 4 rfl (.inl rfl)) (de_int)))) (da_nil)))) (ds_one (ds_set nd rfl (.inl rfl) (de_add (de_var 4 rfl (.inl rfl)) (de_int))))) (ds_one (ds_ret (de_add (de_var 4 rfl (.inl rfl)) (de_int))))))
theorem own_law_lowest (L : Left K mg "_law_lowest" s_law_lowest ["_law_above", "_law_under"]) (z_abs : mg "abs" = none) : Own P w K mg base "_law_lowest" 2 ["_law_above", "_law_under"] F_law_lowest := by
  unfold F_law_lowest
  refine own_ok (n := 4) (m := m_law_lowest) L sc_law_lowest (by decide) (by decide) fun f cdv A outer s H E hG hr => ?_
  have hu := hu65 hr
  have nd := sc_law_lowest.nd
  exact ds_cons (ds_par2 rfl nd rfl rfl (by decide) rfl rfl (da_cons (de_var 1 rfl (.inl rfl)) (da_cons (de_abs (by rfl) z_abs (da_cons (de_var 0 rfl (.inl rfl)) (da_nil))) (da_nil))) (by rfl)) (ds_cons (ds_while PassesOwn.never (dt_gt (de_var 3 rfl (.inl rfl)) (de_int)) (ds_one (ds_par2 rfl nd rfl rfl (by decide) rfl rfl (da_cons (de_var 3 rfl (.inl rfl)) (da_cons (de_mod (de_var 2 rfl (.inl rfl)) (de_var 3 rfl (.inl rfl))) (da_nil))) (by rfl)))) (ds_one (ds_ret (de_tup (da_cons (de_div (de_var 0 rfl (.inl rfl)) (de_var 2 rfl (.inl rfl))) (da_cons (de_div (de_var 1 rfl (.inl rfl)) (de_var 2 rfl (.inl rfl))) (da_nil)))))))
theorem own_law_value (L : Left K mg "_law_value" s_law_value ["_law_deed", "_law_sight"]) (z_enumerate : mg "enumerate" = none) (z_int : mg "int" = none) (z_len : mg "len" = none) (z_list : mg "list" = none) (z_max : mg "max" = none) (z_min : mg "min" = none) (z_sum : mg "sum" = none) (o_law_tile : Own P w K mg base "_law_tile" 2 ["_law_n", "_law_ahead", "_law_every"] (F_law_tile)) (o_law_lowest : Own P w K mg base "_law_lowest" 2 ["_law_above", "_law_under"] (F_law_lowest)) : Own P w K mg base "_law_value" 3 ["_law_deed", "_law_sight"] F_law_value := by
  unfold F_law_value
  refine own_ok (n := 7) (m := m_law_value) L sc_law_value (by decide) (by decide) fun f cdv A outer s H E hG hr => ?_
  have hu := hu65 hr
  have nd := sc_law_value.nd
  exact ds_cons (ds_par2 rfl nd rfl rfl (by decide) rfl rfl (da_cons (de_idx (de_var 0 rfl (.inl rfl)) (de_int)) (da_cons (de_lstOf (by rfl) z_list (da_cons (de_var 1 rfl (.inr (.inl rfl))) (da_nil))) (da_nil))) (by rfl)) (ds_cons (ds_if (dt_in hu (de_var 2 rfl (.inl rfl)) (de_tup (da_cons (de_str) (da_cons (de_str) (da_cons (de_str) (da_nil)))))) (ds_one (ds_ret (de_add (de_idx (de_var 3 rfl (.inl rfl)) (de_int)) (de_int)))) (ds_nil)) (ds_cons (ds_if (dt_in hu (de_var 2 rfl (.inl rfl)) (de_tup (da_cons (de_str) (da_cons (de_str) (da_nil))))) (ds_cons (ds_set nd rfl (.inl rfl) (de_int1 (by rfl) z_int (da_cons (de_eq hu (de_var 2 rfl (.inl rfl)) (de_str)) (da_nil)))) (ds_one (ds_ret (de_if (dt_gt (de_idx (de_var 3 rfl (.inl rfl)) (de_int)) (de_var 4 rfl (.inl rfl))) (de_own hG o_law_lowest rfl hr (by decide) (by rfl) (da_cons (de_idx (de_var 3 rfl (.inl rfl)) (de_int)) (da_cons (de_sub (de_idx (de_var 3 rfl (.inl rfl)) (de_int)) (de_var 4 rfl (.inl rfl))) (da_nil)))) (de_tup (da_cons (de_int) (da_cons (de_int) (da_nil)))))))) (ds_nil)) (ds_cons (ds_if (dt_eq hu (de_var 2 rfl (.inl rfl)) (de_str)) (ds_one (ds_ret (de_own hG o_law_tile rfl hr (by decide) (by rfl) (da_cons (de_idx (de_idx (de_var 0 rfl (.inl rfl)) (de_int)) (de_int)) (da_cons (de_idx (de_var 3 rfl (.inl rfl)) (de_int)) (da_cons (de_idx (de_var 3 rfl (.inl rfl)) (de_int)) (da_nil))))))) (ds_nil)) (ds_cons (ds_if (dt_in hu (de_var 2 rfl (.inl rfl)) (de_tup (da_cons (de_str) (da_cons (de_str) (da_cons (de_str) (da_cons (de_str) (da_cons (de_str) (da_nil)))))))) (ds_one (ds_ret (de_if (dt_ne hu (de_var 3 rfl (.inl rfl)) (de_lst (da_nil))) (de_idx (de_var 3 rfl (.inl rfl)) (de_int)) (de_if (dt_in hu (de_var 2 rfl (.inl rfl)) (de_tup (da_cons (de_str) (da_cons (de_str) (da_nil))))) (de_idx (de_idx (de_var 0 rfl (.inl rfl)) (de_int)) (de_int)) (de_non))))) (ds_nil)) (ds_cons (ds_if (dt_eq hu (de_cut (de_idx (de_var 0 rfl (.inl rfl)) (de_int)) (do_some (de_int)) (do_none)) (de_tup (da_cons (de_str) (da_nil)))) (ds_one (ds_setLc [("_law_at", 5), ("_law_bit", 6)] rfl nd rfl rfl (sw_true rfl rfl rfl (by decide +kernel)) (di_enum (by rfl) z_enumerate (de_var 1 rfl (.inr (.inl rfl)))) (blkOk_by (N := ["_law_deed", "_law_sight", "_law_word", "_law_some", "_law_less", "_law_at", "_law_bit"]) (sc := defScope s_law_value) (by decide +kernel)) (fun _ _ _ _ _ => dg_tup rfl (dg_cons (dg_name nd rfl (.inl rfl)) (dg_cons (dg_name nd rfl (.inl rfl)) (dg_nil)))) (fun _ _ _ _ _ => dts_one (dt_notIn hu (de_var 6 rfl (.inl rfl)) (de_cut (de_var 1 rfl (.inr (.inl rfl))) (do_none) (do_some (de_var 5 rfl (.inl rfl)))))) (fun _ _ _ _ _ => de_var 6 rfl (.inl rfl)))) (ds_nil)) (ds_cons (ds_if (PW.pt (dw_or (dt_eq hu (de_var 2 rfl (.inl rfl)) (de_str)) (dw_or1 (dt_eq hu (de_var 3 rfl (.inl rfl)) (de_lst (da_nil)))))) (ds_one (ds_ret (de_if (dt_eq hu (de_var 2 rfl (.inl rfl)) (de_str)) (de_len (by rfl) z_len (da_cons (de_var 3 rfl (.inl rfl)) (da_nil))) (de_non)))) (ds_nil)) (ds_cons (ds_if (dt_eq hu (de_var 2 rfl (.inl rfl)) (de_str)) (ds_one (ds_ret (de_join (de_str) (de_var 3 rfl (.inl rfl))))) (ds_nil)) (ds_cons (ds_if (dt_in hu (de_var 2 rfl (.inl rfl)) (de_tup (da_cons (de_str) (da_cons (de_str) (da_nil))))) (ds_one (ds_ret (de_if (dt_eq hu (de_var 2 rfl (.inl rfl)) (de_str)) (de_min1 hu rfl (by rfl) z_min (da_cons (de_var 3 rfl (.inl rfl)) (da_nil))) (de_max1 hu rfl (by rfl) z_max (da_cons (de_var 3 rfl (.inl rfl)) (da_nil)))))) (ds_nil)) (ds_one (ds_ret (de_if (dt_eq hu (de_var 2 rfl (.inl rfl)) (de_str)) (de_sum rfl (by rfl) z_sum (da_cons (de_var 3 rfl (.inl rfl)) (da_nil))) (de_own hG o_law_lowest rfl hr (by decide) (by rfl) (da_cons (de_sum rfl (by rfl) z_sum (da_cons (de_var 3 rfl (.inl rfl)) (da_nil))) (da_cons (de_len (by rfl) z_len (da_cons (de_var 3 rfl (.inl rfl)) (da_nil))) (da_nil)))))))))))))))
theorem own_law_right (L : Left K mg "_law_right" s_law_right ["_law_box_here"]) (z_int : mg "int" = none) (z_len : mg "len" = none) (z_list : mg "list" = none) (z_range : mg "range" = none) (z_tuple : mg "tuple" = none) (o_law_take : Own P w K mg base "_law_take" 3 ["_law_box_here", "_law_below"] (F_law_take 2)) (o_law_of : Own P w K mg base "_law_of" 4 ["_law_box_here", "_law_some"] (F_law_of)) (o_law_due : Own P w K mg base "_law_due" 2 ["_law_word", "_law_groups_so", "_law_spot"] (F_law_due)) (x_rank_looks : OwnX P w K mg base "rank_looks" 3 ["function", "line"] [(["line", "function"], [1, 0])] (F_rank_looks)) (o_law_same : Own P w K mg base "_law_same" 7 ["_law_found", "_law_due_here"] (F_law_same 6)) (o_law_mixed : Own P w K mg base "_law_mixed" 7 ["_law_box_here", "_law_matter"] (F_law_mixed 4)) (x_call_value : OwnX P w K mg base "call_value" 4 ["call", "look"] [(["look", "call"], [1, 0])] (F_call_value)) (o_law_value : Own P w K mg base "_law_value" 3 ["_law_deed", "_law_sight"] (F_law_value)) : Own P w K mg base "_law_right" 8 ["_law_box_here"] F_law_right := by
  unfold F_law_right
  refine own_ok (n := 12) (m := m_law_right) L sc_law_right (by decide) (by decide) fun f cdv A outer s H E hG hr => ?_
  have hu := hu65 hr
  have nd := sc_law_right.nd
  have o_rank_looks := x_rank_looks.own
  have o_call_value := x_call_value.own
  exact ds_cons (ds_set nd rfl (.inr rfl) (de_lst (da_nil))) (ds_cons (ds_for PassesOwn.never rfl (di_range1 (by rfl) z_range (da_cons (de_add (de_int) (de_own hG o_law_take rfl hr (by decide) (by rfl) (da_cons (de_var 0 rfl (.inl rfl)) (da_cons (de_int) (da_nil))))) (da_nil))) (dg_name nd rfl (.inl rfl)) (ds_one (ds_set nd rfl (.inr rfl) (de_add (de_var 1 rfl (.inr (.inl rfl))) (de_mul (de_lst (da_cons (de_var 2 rfl (.inl rfl)) (da_nil))) (de_add (de_int) (de_own hG o_law_take rfl hr (by decide) (by rfl) (da_cons (de_var 0 rfl (.inl rfl)) (da_cons (de_int) (da_nil)))))))))) (ds_cons (ds_set nd rfl (.inr rfl) (de_eq hu (de_own hG o_law_take rfl hr (by decide) (by rfl) (da_cons (de_var 0 rfl (.inl rfl)) (da_cons (de_int) (da_nil)))) (de_int))) (ds_cons (ds_set nd rfl (.inr rfl) (de_if (dt_tru (de_var 3 rfl (.inr (.inl rfl)))) (de_own hG o_law_of rfl hr (by decide) (by rfl) (da_cons (de_var 0 rfl (.inl rfl)) (da_cons (de_lst (da_cons (de_str) (da_cons (de_str) (da_nil)))) (da_nil)))) (de_str))) (ds_cons (ds_set nd rfl (.inl rfl) (de_tup (da_cons (de_var 4 rfl (.inr (.inl rfl))) (da_cons (de_tupOf (by rfl) z_tuple (da_cons (de_lc [("_law_k", 2)] rfl nd (di_seq (de_var 1 rfl (.inr (.inl rfl)))) (blkOk_by (N := ["_law_box_here", "_law_groups_so", "_law_k", "_law_numbered", "_law_way", "_law_bits", "_law_word", "_law_due_here", "_law_told", "_law_sight", "_law_many", "_law_spot"]) (sc := defScope s_law_right) (by decide +kernel)) (fun _ _ _ _ _ => dg_name nd rfl (.inl rfl)) (fun _ _ _ _ _ => dts_nil) (fun _ _ _ _ _ => de_tup (da_cons (de_var 2 rfl (.inl rfl)) (da_cons (de_if (dt_tru (de_var 3 rfl (.inr (.inl rfl)))) (de_mul (de_var 2 rfl (.inl rfl)) (de_sub (de_int) (de_mul (de_int) (de_int1 (by rfl) z_int (da_cons (de_eq hu (de_var 4 rfl (.inr (.inl rfl))) (de_str)) (da_nil)))))) (de_non)) (da_nil))))) (da_nil))) (da_nil))))) (ds_cons (ds_for PassesOwn.never rfl (di_seq (de_tup (da_cons (de_str) (da_cons (de_str) (da_cons (de_str) (da_cons (de_str) (da_cons (de_str) (da_cons (de_str) (da_nil))))))))) (dg_name nd rfl (.inr rfl)) (ds_cons (ds_setLc [("_law_spot", 11)] rfl nd rfl rfl (sw_true rfl rfl rfl (by decide +kernel)) (di_range1 (by rfl) z_range (da_cons (de_len (by rfl) z_len (da_cons (de_var 1 rfl (.inr (.inl rfl))) (da_nil))) (da_nil))) (blkOk_by (N := ["_law_box_here", "_law_groups_so", "_law_k", "_law_numbered", "_law_way", "_law_bits", "_law_word", "_law_due_here", "_law_told", "_law_sight", "_law_many", "_law_spot"]) (sc := defScope s_law_right) (by decide +kernel)) (fun _ _ _ _ _ => dg_name nd rfl (.inl rfl)) (fun _ _ _ _ _ => dts_nil) (fun _ _ _ _ _ => de_own hG o_law_due rfl hr (by decide) (by rfl) (da_cons (de_var 6 rfl (.inr (.inl rfl))) (da_cons (de_var 1 rfl (.inr (.inl rfl))) (da_cons (de_var 11 rfl (.inl rfl)) (da_nil)))))) (ds_tri nd rfl (.inl rfl) (.inl rfl) (da_cons (de_own hG o_rank_looks rfl hr (by decide) (by rfl) (da_cons (de_var 6 rfl (.inr (.inl rfl))) (da_cons (de_var 5 rfl (.inl rfl)) (da_nil)))) (da_cons (de_ownK ["line", "function"] [1, 0] hG x_rank_looks (by simp) rfl rfl hr (by decide) (by rfl) (dk_cons (de_own hG o_law_mixed rfl hr (by decide) (by rfl) (da_cons (de_var 0 rfl (.inl rfl)) (da_cons (de_var 5 rfl (.inl rfl)) (da_nil)))) (dk_cons (de_var 6 rfl (.inr (.inl rfl))) (dk_nil))) (cons_len (cons_len (nil_len)))) (da_nil))) (dt_not (dt_tru (de_own hG o_law_same rfl hr (by decide) (by rfl) (da_cons (de_var 8 rfl (.inl rfl)) (da_cons (de_lst (da_cons (de_var 7 rfl (.inl rfl)) (da_cons (de_var 7 rfl (.inl rfl)) (da_nil)))) (da_nil)))))) (ds_cons (ds_if (dt_not (dt_tru (de_own hG o_law_same rfl hr (by decide) (by rfl) (da_cons (de_own hG o_rank_looks rfl hr (by decide) (by rfl) (da_cons (de_var 6 rfl (.inr (.inl rfl))) (da_cons (de_var 5 rfl (.inl rfl)) (da_nil)))) (da_cons (de_var 7 rfl (.inl rfl)) (da_nil)))))) (ds_one (ds_ret (de_bl))) (ds_nil)) (ds_one (ds_for PassesOwn.never rfl (di_seq (de_var 7 rfl (.inl rfl))) (dg_name nd rfl (.inl rfl)) (ds_one (ds_for PassesOwn.never rfl (di_seq (de_if (dt_ne hu (de_var 6 rfl (.inr (.inl rfl))) (de_str)) (de_lst (da_cons (de_tup (da_nil)) (da_nil))) (de_lst (da_cons (de_tup (da_cons (de_int) (da_nil))) (da_cons (de_tup (da_cons (de_int) (da_nil))) (da_cons (de_tup (da_cons (de_int) (da_nil))) (da_cons (de_tup (da_cons (de_add (de_int) (de_own hG o_law_take rfl hr (by decide) (by rfl) (da_cons (de_var 0 rfl (.inl rfl)) (da_cons (de_int) (da_nil))))) (da_nil))) (da_cons (de_tup (da_cons (de_len (by rfl) z_len (da_cons (de_var 1 rfl (.inr (.inl rfl))) (da_nil))) (da_nil))) (da_nil))))))))) (dg_name nd rfl (.inl rfl)) (ds_cons (ds_set nd rfl (.inl rfl) (de_lst (da_cons (de_own hG o_call_value rfl hr (by decide) (by rfl) (da_cons (de_tup (da_cons (de_var 6 rfl (.inr (.inl rfl))) (da_cons (de_var 10 rfl (.inl rfl)) (da_nil)))) (da_cons (de_var 9 rfl (.inl rfl)) (da_nil)))) (da_cons (de_ownK ["look", "call"] [1, 0] hG x_call_value (by simp) rfl rfl hr (by decide) (by rfl) (dk_cons (de_lstOf (by rfl) z_list (da_cons (de_var 9 rfl (.inl rfl)) (da_nil))) (dk_cons (de_lst (da_cons (de_var 6 rfl (.inr (.inl rfl))) (da_cons (de_lstOf (by rfl) z_list (da_cons (de_var 10 rfl (.inl rfl)) (da_nil))) (da_nil)))) (dk_nil))) (cons_len (cons_len (nil_len)))) (da_nil))))) (ds_one (ds_if (dt_not (dt_tru (de_own hG o_law_same rfl hr (by decide) (by rfl) (da_cons (de_var 8 rfl (.inl rfl)) (da_cons (de_mul (de_lst (da_cons (de_own hG o_law_value rfl hr (by decide) (by rfl) (da_cons (de_tup (da_cons (de_var 6 rfl (.inr (.inl rfl))) (da_cons (de_var 10 rfl (.inl rfl)) (da_nil)))) (da_cons (de_var 9 rfl (.inl rfl)) (da_nil)))) (da_nil))) (de_int)) (da_nil)))))) (ds_one (ds_ret (de_bl))) (ds_nil)))))))))))) (ds_one (ds_ret (de_bl))))))))
theorem law_ok {f : Addr} {fd : FuncData} (F : Fun K "law" "law" s_law f fd) (z_all : mg "all" = none) (z_len : mg "len" = none) (z_min : mg "min" = none) (z_range : mg "range" = none) (o_law_box : Own P w K mg base "_law_box" 2 ["_law_script", "_law_k"] (F_law_box)) (o_law_right : Own P w K mg base "_law_right" 8 ["_law_box_here"] (F_law_right)) : FnG P w K mg base CX0 9 f fd ["_law_script"] (spF K 1 F_law) := by
  unfold F_law
  refine fn_ok (n := 4) (m := m_law) F sc_law (by decide) (by decide) fun cdv A outer s H E hG hr => ?_
  have hu := hu65 hr
  have nd := sc_law.nd
  exact ds_cons (ds_for PassesOwn.never rfl (di_range1 (by rfl) z_range (da_cons (de_add (de_int) (de_min2 rfl (by rfl) z_min (da_cons (de_int) (da_cons (de_len (by rfl) z_len (da_cons (de_var 0 rfl (.inl rfl)) (da_nil))) (da_nil))))) (da_nil))) (dg_name nd rfl (.inl rfl)) (ds_cons (ds_cell nd rfl (.inr rfl) (de_own hG o_law_box rfl hr (by decide) (by rfl) (da_cons (de_var 0 rfl (.inl rfl)) (da_cons (de_var 1 rfl (.inl rfl)) (da_nil))))) (ds_one (ds_if (dt_not (dt_tru (de_all rfl (by rfl) z_all (da_cons (de_lc [("_law_turn", 3)] rfl nd (di_range1 (by rfl) z_range (da_cons (de_int) (da_nil))) (blkOk_by (N := ["_law_script", "_law_k", "_law_box_here", "_law_turn"]) (sc := defScope s_law) (by decide +kernel)) (fun _ _ _ _ _ => dg_name nd rfl (.inl rfl)) (fun _ _ _ _ _ => dts_nil) (fun _ _ _ _ _ => de_own hG o_law_right rfl hr (by decide) (by rfl) (da_cons (de_var 2 rfl (.inr (.inl rfl))) (da_nil)))) (da_nil))))) (ds_one (ds_ret (de_bl))) (ds_nil))))) (ds_one (ds_ret (de_bl)))
end
theorem all_mk {l : PySem.W.OpenLaw} {w : World} {K : PySem.W.Frag} {h : Heap} {mg : Str → Option Value} {fa : Addr} (X : K.In h) (G : h.Ns mainGlobals mg) (hfa : mg "law" = some (.ref fa))
    {f_law_box : Addr} {od_law_box an_law_box : Option Addr} {sl_law_box : Array (Option Value)} {oc_law_box kV_law_box dc_law_box pm_law_box cd_law_box ct_law_box : Value}
    {f_law_take : Addr} {od_law_take an_law_take : Option Addr} {sl_law_take : Array (Option Value)} {oc_law_take kV_law_take dc_law_take pm_law_take cd_law_take ct_law_take : Value}
    {f_law_of : Addr} {od_law_of an_law_of : Option Addr} {sl_law_of : Array (Option Value)} {oc_law_of kV_law_of dc_law_of pm_law_of cd_law_of ct_law_of : Value}
    {f_law_due : Addr} {od_law_due an_law_due : Option Addr} {sl_law_due : Array (Option Value)} {oc_law_due kV_law_due dc_law_due pm_law_due cd_law_due ct_law_due : Value}
    {f_rank_look : Addr} {od_rank_look an_rank_look : Option Addr} {sl_rank_look : Array (Option Value)} {oc_rank_look kV_rank_look dc_rank_look pm_rank_look cd_rank_look ct_rank_look : Value}
    {f_rank_looks : Addr} {od_rank_looks an_rank_looks : Option Addr} {sl_rank_looks : Array (Option Value)} {oc_rank_looks kV_rank_looks dc_rank_looks pm_rank_looks cd_rank_looks ct_rank_looks : Value}
    {f_law_same : Addr} {od_law_same an_law_same : Option Addr} {sl_law_same : Array (Option Value)} {oc_law_same kV_law_same dc_law_same pm_law_same cd_law_same ct_law_same : Value}
    {f_law_mixed : Addr} {od_law_mixed an_law_mixed : Option Addr} {sl_law_mixed : Array (Option Value)} {oc_law_mixed kV_law_mixed dc_law_mixed pm_law_mixed cd_law_mixed ct_law_mixed : Value}
    {f_fraction : Addr} {od_fraction an_fraction : Option Addr} {sl_fraction : Array (Option Value)} {oc_fraction kV_fraction dc_fraction pm_fraction cd_fraction ct_fraction : Value}
    {f_sum_value : Addr} {od_sum_value an_sum_value : Option Addr} {sl_sum_value : Array (Option Value)} {oc_sum_value kV_sum_value dc_sum_value pm_sum_value cd_sum_value ct_sum_value : Value}
    {f_tile : Addr} {od_tile an_tile : Option Addr} {sl_tile : Array (Option Value)} {oc_tile kV_tile dc_tile pm_tile cd_tile ct_tile : Value}
    {f_rank_value : Addr} {od_rank_value an_rank_value : Option Addr} {sl_rank_value : Array (Option Value)} {oc_rank_value kV_rank_value dc_rank_value pm_rank_value cd_rank_value ct_rank_value : Value}
    {f_offset_value : Addr} {od_offset_value an_offset_value : Option Addr} {sl_offset_value : Array (Option Value)} {oc_offset_value kV_offset_value dc_offset_value pm_offset_value cd_offset_value ct_offset_value : Value}
    {f_counted : Addr} {od_counted an_counted : Option Addr} {sl_counted : Array (Option Value)} {oc_counted kV_counted dc_counted pm_counted cd_counted ct_counted : Value}
    {f_call_value : Addr} {od_call_value an_call_value : Option Addr} {sl_call_value : Array (Option Value)} {oc_call_value kV_call_value dc_call_value pm_call_value cd_call_value ct_call_value : Value}
    {f_law_tile : Addr} {od_law_tile an_law_tile : Option Addr} {sl_law_tile : Array (Option Value)} {oc_law_tile kV_law_tile dc_law_tile pm_law_tile cd_law_tile ct_law_tile : Value}
    {f_law_lowest : Addr} {od_law_lowest an_law_lowest : Option Addr} {sl_law_lowest : Array (Option Value)} {oc_law_lowest kV_law_lowest dc_law_lowest pm_law_lowest cd_law_lowest ct_law_lowest : Value}
    {f_law_value : Addr} {od_law_value an_law_value : Option Addr} {sl_law_value : Array (Option Value)} {oc_law_value kV_law_value dc_law_value pm_law_value cd_law_value ct_law_value : Value}
    {f_law_right : Addr} {od_law_right an_law_right : Option Addr} {sl_law_right : Array (Option Value)} {oc_law_right kV_law_right dc_law_right pm_law_right cd_law_right ct_law_right : Value}
    {f_law : Addr} {od_law an_law : Option Addr} {sl_law : Array (Option Value)} {oc_law kV_law dc_law pm_law cd_law ct_law : Value}
    (a_law_box : PySem.W.nsIn K mainGlobals "_law_box" = some (some (.ref f_law_box))) (l_law_box : K.lookup f_law_box = some ⟨oc_law_box, od_law_box, .func (PySem.W.fnOf "_law_box" "_law_box" (defArgs s_law_box) (defBody s_law_box) (defScope s_law_box) .none kV_law_box dc_law_box pm_law_box an_law_box cd_law_box ct_law_box), sl_law_box⟩) (c_law_box : PySem.W.codeIn K cd_law_box "_law_box" = true) (k_law_box : PySem.W.keepIn K (.ref f_law_box) = true)
    (a_law_take : PySem.W.nsIn K mainGlobals "_law_take" = some (some (.ref f_law_take))) (l_law_take : K.lookup f_law_take = some ⟨oc_law_take, od_law_take, .func (PySem.W.fnOf "_law_take" "_law_take" (defArgs s_law_take) (defBody s_law_take) (defScope s_law_take) .none kV_law_take dc_law_take pm_law_take an_law_take cd_law_take ct_law_take), sl_law_take⟩) (c_law_take : PySem.W.codeIn K cd_law_take "_law_take" = true) (k_law_take : PySem.W.keepIn K (.ref f_law_take) = true)
    (a_law_of : PySem.W.nsIn K mainGlobals "_law_of" = some (some (.ref f_law_of))) (l_law_of : K.lookup f_law_of = some ⟨oc_law_of, od_law_of, .func (PySem.W.fnOf "_law_of" "_law_of" (defArgs s_law_of) (defBody s_law_of) (defScope s_law_of) .none kV_law_of dc_law_of pm_law_of an_law_of cd_law_of ct_law_of), sl_law_of⟩) (c_law_of : PySem.W.codeIn K cd_law_of "_law_of" = true) (k_law_of : PySem.W.keepIn K (.ref f_law_of) = true)
    (a_law_due : PySem.W.nsIn K mainGlobals "_law_due" = some (some (.ref f_law_due))) (l_law_due : K.lookup f_law_due = some ⟨oc_law_due, od_law_due, .func (PySem.W.fnOf "_law_due" "_law_due" (defArgs s_law_due) (defBody s_law_due) (defScope s_law_due) .none kV_law_due dc_law_due pm_law_due an_law_due cd_law_due ct_law_due), sl_law_due⟩) (c_law_due : PySem.W.codeIn K cd_law_due "_law_due" = true) (k_law_due : PySem.W.keepIn K (.ref f_law_due) = true)
    (a_rank_look : PySem.W.nsIn K mainGlobals "_rank_look" = some (some (.ref f_rank_look))) (l_rank_look : K.lookup f_rank_look = some ⟨oc_rank_look, od_rank_look, .func (PySem.W.fnOf "_rank_look" "_rank_look" (defArgs s_rank_look) (defBody s_rank_look) (defScope s_rank_look) .none kV_rank_look dc_rank_look pm_rank_look an_rank_look cd_rank_look ct_rank_look), sl_rank_look⟩) (c_rank_look : PySem.W.codeIn K cd_rank_look "_rank_look" = true) (k_rank_look : PySem.W.keepIn K (.ref f_rank_look) = true)
    (a_rank_looks : PySem.W.nsIn K mainGlobals "rank_looks" = some (some (.ref f_rank_looks))) (l_rank_looks : K.lookup f_rank_looks = some ⟨oc_rank_looks, od_rank_looks, .func (PySem.W.fnOf "rank_looks" "rank_looks" (defArgs s_rank_looks) (defBody s_rank_looks) (defScope s_rank_looks) .none kV_rank_looks dc_rank_looks pm_rank_looks an_rank_looks cd_rank_looks ct_rank_looks), sl_rank_looks⟩) (c_rank_looks : PySem.W.codeIn K cd_rank_looks "rank_looks" = true) (k_rank_looks : PySem.W.keepIn K (.ref f_rank_looks) = true)
    (a_law_same : PySem.W.nsIn K mainGlobals "_law_same" = some (some (.ref f_law_same))) (l_law_same : K.lookup f_law_same = some ⟨oc_law_same, od_law_same, .func (PySem.W.fnOf "_law_same" "_law_same" (defArgs s_law_same) (defBody s_law_same) (defScope s_law_same) .none kV_law_same dc_law_same pm_law_same an_law_same cd_law_same ct_law_same), sl_law_same⟩) (c_law_same : PySem.W.codeIn K cd_law_same "_law_same" = true) (k_law_same : PySem.W.keepIn K (.ref f_law_same) = true)
    (a_law_mixed : PySem.W.nsIn K mainGlobals "_law_mixed" = some (some (.ref f_law_mixed))) (l_law_mixed : K.lookup f_law_mixed = some ⟨oc_law_mixed, od_law_mixed, .func (PySem.W.fnOf "_law_mixed" "_law_mixed" (defArgs s_law_mixed) (defBody s_law_mixed) (defScope s_law_mixed) .none kV_law_mixed dc_law_mixed pm_law_mixed an_law_mixed cd_law_mixed ct_law_mixed), sl_law_mixed⟩) (c_law_mixed : PySem.W.codeIn K cd_law_mixed "_law_mixed" = true) (k_law_mixed : PySem.W.keepIn K (.ref f_law_mixed) = true)
    (a_fraction : PySem.W.nsIn K mainGlobals "fraction" = some (some (.ref f_fraction))) (l_fraction : K.lookup f_fraction = some ⟨oc_fraction, od_fraction, .func (PySem.W.fnOf "fraction" "fraction" (defArgs s_fraction) (defBody s_fraction) (defScope s_fraction) .none kV_fraction dc_fraction pm_fraction an_fraction cd_fraction ct_fraction), sl_fraction⟩) (c_fraction : PySem.W.codeIn K cd_fraction "fraction" = true) (k_fraction : PySem.W.keepIn K (.ref f_fraction) = true)
    (a_sum_value : PySem.W.nsIn K mainGlobals "sum_value" = some (some (.ref f_sum_value))) (l_sum_value : K.lookup f_sum_value = some ⟨oc_sum_value, od_sum_value, .func (PySem.W.fnOf "sum_value" "sum_value" (defArgs s_sum_value) (defBody s_sum_value) (defScope s_sum_value) .none kV_sum_value dc_sum_value pm_sum_value an_sum_value cd_sum_value ct_sum_value), sl_sum_value⟩) (c_sum_value : PySem.W.codeIn K cd_sum_value "sum_value" = true) (k_sum_value : PySem.W.keepIn K (.ref f_sum_value) = true)
    (a_tile : PySem.W.nsIn K mainGlobals "_tile" = some (some (.ref f_tile))) (l_tile : K.lookup f_tile = some ⟨oc_tile, od_tile, .func (PySem.W.fnOf "_tile" "_tile" (defArgs s_tile) (defBody s_tile) (defScope s_tile) .none kV_tile dc_tile pm_tile an_tile cd_tile ct_tile), sl_tile⟩) (c_tile : PySem.W.codeIn K cd_tile "_tile" = true) (k_tile : PySem.W.keepIn K (.ref f_tile) = true)
    (a_rank_value : PySem.W.nsIn K mainGlobals "_rank_value" = some (some (.ref f_rank_value))) (l_rank_value : K.lookup f_rank_value = some ⟨oc_rank_value, od_rank_value, .func (PySem.W.fnOf "_rank_value" "_rank_value" (defArgs s_rank_value) (defBody s_rank_value) (defScope s_rank_value) .none kV_rank_value dc_rank_value pm_rank_value an_rank_value cd_rank_value ct_rank_value), sl_rank_value⟩) (c_rank_value : PySem.W.codeIn K cd_rank_value "_rank_value" = true) (k_rank_value : PySem.W.keepIn K (.ref f_rank_value) = true)
    (a_offset_value : PySem.W.nsIn K mainGlobals "_offset_value" = some (some (.ref f_offset_value))) (l_offset_value : K.lookup f_offset_value = some ⟨oc_offset_value, od_offset_value, .func (PySem.W.fnOf "_offset_value" "_offset_value" (defArgs s_offset_value) (defBody s_offset_value) (defScope s_offset_value) .none kV_offset_value dc_offset_value pm_offset_value an_offset_value cd_offset_value ct_offset_value), sl_offset_value⟩) (c_offset_value : PySem.W.codeIn K cd_offset_value "_offset_value" = true) (k_offset_value : PySem.W.keepIn K (.ref f_offset_value) = true)
    (a_counted : PySem.W.nsIn K mainGlobals "_counted" = some (some (.ref f_counted))) (l_counted : K.lookup f_counted = some ⟨oc_counted, od_counted, .func (PySem.W.fnOf "_counted" "_counted" (defArgs s_counted) (defBody s_counted) (defScope s_counted) .none kV_counted dc_counted pm_counted an_counted cd_counted ct_counted), sl_counted⟩) (c_counted : PySem.W.codeIn K cd_counted "_counted" = true) (k_counted : PySem.W.keepIn K (.ref f_counted) = true)
    (a_call_value : PySem.W.nsIn K mainGlobals "call_value" = some (some (.ref f_call_value))) (l_call_value : K.lookup f_call_value = some ⟨oc_call_value, od_call_value, .func (PySem.W.fnOf "call_value" "call_value" (defArgs s_call_value) (defBody s_call_value) (defScope s_call_value) .none kV_call_value dc_call_value pm_call_value an_call_value cd_call_value ct_call_value), sl_call_value⟩) (c_call_value : PySem.W.codeIn K cd_call_value "call_value" = true) (k_call_value : PySem.W.keepIn K (.ref f_call_value) = true)
    (a_law_tile : PySem.W.nsIn K mainGlobals "_law_tile" = some (some (.ref f_law_tile))) (l_law_tile : K.lookup f_law_tile = some ⟨oc_law_tile, od_law_tile, .func (PySem.W.fnOf "_law_tile" "_law_tile" (defArgs s_law_tile) (defBody s_law_tile) (defScope s_law_tile) .none kV_law_tile dc_law_tile pm_law_tile an_law_tile cd_law_tile ct_law_tile), sl_law_tile⟩) (c_law_tile : PySem.W.codeIn K cd_law_tile "_law_tile" = true) (k_law_tile : PySem.W.keepIn K (.ref f_law_tile) = true)
    (a_law_lowest : PySem.W.nsIn K mainGlobals "_law_lowest" = some (some (.ref f_law_lowest))) (l_law_lowest : K.lookup f_law_lowest = some ⟨oc_law_lowest, od_law_lowest, .func (PySem.W.fnOf "_law_lowest" "_law_lowest" (defArgs s_law_lowest) (defBody s_law_lowest) (defScope s_law_lowest) .none kV_law_lowest dc_law_lowest pm_law_lowest an_law_lowest cd_law_lowest ct_law_lowest), sl_law_lowest⟩) (c_law_lowest : PySem.W.codeIn K cd_law_lowest "_law_lowest" = true) (k_law_lowest : PySem.W.keepIn K (.ref f_law_lowest) = true)
    (a_law_value : PySem.W.nsIn K mainGlobals "_law_value" = some (some (.ref f_law_value))) (l_law_value : K.lookup f_law_value = some ⟨oc_law_value, od_law_value, .func (PySem.W.fnOf "_law_value" "_law_value" (defArgs s_law_value) (defBody s_law_value) (defScope s_law_value) .none kV_law_value dc_law_value pm_law_value an_law_value cd_law_value ct_law_value), sl_law_value⟩) (c_law_value : PySem.W.codeIn K cd_law_value "_law_value" = true) (k_law_value : PySem.W.keepIn K (.ref f_law_value) = true)
    (a_law_right : PySem.W.nsIn K mainGlobals "_law_right" = some (some (.ref f_law_right))) (l_law_right : K.lookup f_law_right = some ⟨oc_law_right, od_law_right, .func (PySem.W.fnOf "_law_right" "_law_right" (defArgs s_law_right) (defBody s_law_right) (defScope s_law_right) .none kV_law_right dc_law_right pm_law_right an_law_right cd_law_right ct_law_right), sl_law_right⟩) (c_law_right : PySem.W.codeIn K cd_law_right "_law_right" = true) (k_law_right : PySem.W.keepIn K (.ref f_law_right) = true)
    (a_law : PySem.W.nsIn K mainGlobals "law" = some (some (.ref f_law))) (l_law : K.lookup f_law = some ⟨oc_law, od_law, .func (PySem.W.fnOf "law" "law" (defArgs s_law) (defBody s_law) (defScope s_law) .none kV_law dc_law pm_law an_law cd_law ct_law), sl_law⟩) (c_law : PySem.W.codeIn K cd_law "law" = true) (k_law : PySem.W.keepIn K (.ref f_law) = true)
    (z_abs : PySem.W.nsIn K mainGlobals "abs" = some none)
    (z_all : PySem.W.nsIn K mainGlobals "all" = some none)
    (z_bool : PySem.W.nsIn K mainGlobals "bool" = some none)
    (z_divmod : PySem.W.nsIn K mainGlobals "divmod" = some none)
    (z_enumerate : PySem.W.nsIn K mainGlobals "enumerate" = some none)
    (z_gcd : PySem.W.nsIn K mainGlobals "gcd" = some (some (.builtin "math.gcd")))
    (z_int : PySem.W.nsIn K mainGlobals "int" = some none)
    (z_isinstance : PySem.W.nsIn K mainGlobals "isinstance" = some none)
    (z_len : PySem.W.nsIn K mainGlobals "len" = some none)
    (z_list : PySem.W.nsIn K mainGlobals "list" = some none)
    (z_max : PySem.W.nsIn K mainGlobals "max" = some none)
    (z_min : PySem.W.nsIn K mainGlobals "min" = some none)
    (z_range : PySem.W.nsIn K mainGlobals "range" = some none)
    (z_set : PySem.W.nsIn K mainGlobals "set" = some none)
    (z_str : PySem.W.nsIn K mainGlobals "str" = some none)
    (z_sum : PySem.W.nsIn K mainGlobals "sum" = some none)
    (z_tuple : PySem.W.nsIn K mainGlobals "tuple" = some none)
    (z_zip : PySem.W.nsIn K mainGlobals "zip" = some none)
    {d_OFFSETS : Addr} {es_OFFSETS : Array Value} {n_OFFSETS : Nat} {o_OFFSETS : Obj} (aa_OFFSETS : PySem.W.nsIn K mainGlobals "OFFSETS" = some (some (.ref d_OFFSETS))) (kd_OFFSETS : K.lookup d_OFFSETS = some o_OFFSETS) (oa_OFFSETS : o_OFFSETS.cls = .type "tuple") (ob_OFFSETS : o_OFFSETS.data = .seq es_OFFSETS n_OFFSETS) (ts_OFFSETS : es_OFFSETS.size ≤ sizeLine) (ks_OFFSETS : BV.StrsAre es_OFFSETS.toList ["earlier", "later", "first", "last", "nth"])
    {d_RANKS : Addr} {es_RANKS : Array Value} {n_RANKS : Nat} {o_RANKS : Obj} (aa_RANKS : PySem.W.nsIn K mainGlobals "RANKS" = some (some (.ref d_RANKS))) (kd_RANKS : K.lookup d_RANKS = some o_RANKS) (oa_RANKS : o_RANKS.cls = .type "tuple") (ob_RANKS : o_RANKS.data = .seq es_RANKS n_RANKS) (ts_RANKS : es_RANKS.size ≤ sizeLine) (ks_RANKS : BV.StrsAre es_RANKS.toList ["row", "rank", "dense", "percent", "share", "tile"])
    (main : ∀ ns : List Int, ns.length ≤ 63 → ∃ S', F_law [.frz (ns.map .int)] [] = some (.dat (.bool true), S')) :
    ∃ fd : FuncData, (∀ (s : Shared) (v : Value), BindsTo s fd ⟨[v], []⟩ [("_law_script", v)]) ∧ ∀ base : Heap, K.In base → base.Ns mainGlobals mg → FnG l.prog w K mg base CX0 9 fa fd ["_law_script"] (spF K 1 F_law) := by
  have e := hfa.symm.trans (PySem.W.mg_of X G a_law)
  cases e
  have y_abs := PySem.W.mg_none_of X G z_abs
  have y_all := PySem.W.mg_none_of X G z_all
  have y_bool := PySem.W.mg_none_of X G z_bool
  have y_divmod := PySem.W.mg_none_of X G z_divmod
  have y_enumerate := PySem.W.mg_none_of X G z_enumerate
  have y_gcd := PySem.W.mg_of X G z_gcd
  have y_int := PySem.W.mg_none_of X G z_int
  have y_isinstance := PySem.W.mg_none_of X G z_isinstance
  have y_len := PySem.W.mg_none_of X G z_len
  have y_list := PySem.W.mg_none_of X G z_list
  have y_max := PySem.W.mg_none_of X G z_max
  have y_min := PySem.W.mg_none_of X G z_min
  have y_range := PySem.W.mg_none_of X G z_range
  have y_set := PySem.W.mg_none_of X G z_set
  have y_str := PySem.W.mg_none_of X G z_str
  have y_sum := PySem.W.mg_none_of X G z_sum
  have y_tuple := PySem.W.mg_none_of X G z_tuple
  have y_zip := PySem.W.mg_none_of X G z_zip
  have g_OFFSETS := PySem.W.mg_of X G aa_OFFSETS
  have t_OFFSETS : TupIs K d_OFFSETS c_OFFSETS := TupIs.mk' kd_OFFSETS oa_OFFSETS ob_OFFSETS ts_OFFSETS ks_OFFSETS
  have g_RANKS := PySem.W.mg_of X G aa_RANKS
  have t_RANKS : TupIs K d_RANKS c_RANKS := TupIs.mk' kd_RANKS oa_RANKS ob_RANKS ts_RANKS ks_RANKS
  have q_law_box := fun_mk (st := s_law_box) l_law_box c_law_box k_law_box
  have L_law_box : Left K mg "_law_box" s_law_box ["_law_script", "_law_k"] := ⟨_, _, q_law_box, PySem.W.mg_of X G a_law_box, q_law_box.binds (ps := ["_law_script", "_law_k"]) fun _ _ _ _ _ _ us hl => match us, hl with | [_, _], _ => rfl⟩
  have q_law_take := fun_mk (st := s_law_take) l_law_take c_law_take k_law_take
  have L_law_take : Left K mg "_law_take" s_law_take ["_law_box_here", "_law_below"] := ⟨_, _, q_law_take, PySem.W.mg_of X G a_law_take, q_law_take.binds (ps := ["_law_box_here", "_law_below"]) fun _ _ _ _ _ _ us hl => match us, hl with | [_, _], _ => rfl⟩
  have q_law_of := fun_mk (st := s_law_of) l_law_of c_law_of k_law_of
  have L_law_of : Left K mg "_law_of" s_law_of ["_law_box_here", "_law_some"] := ⟨_, _, q_law_of, PySem.W.mg_of X G a_law_of, q_law_of.binds (ps := ["_law_box_here", "_law_some"]) fun _ _ _ _ _ _ us hl => match us, hl with | [_, _], _ => rfl⟩
  have q_law_due := fun_mk (st := s_law_due) l_law_due c_law_due k_law_due
  have L_law_due : Left K mg "_law_due" s_law_due ["_law_word", "_law_groups_so", "_law_spot"] := ⟨_, _, q_law_due, PySem.W.mg_of X G a_law_due, q_law_due.binds (ps := ["_law_word", "_law_groups_so", "_law_spot"]) fun _ _ _ _ _ _ us hl => match us, hl with | [_, _, _], _ => rfl⟩
  have q_rank_look := fun_mk (st := s_rank_look) l_rank_look c_rank_look k_rank_look
  have L_rank_look : Left K mg "_rank_look" s_rank_look ["function", "groups", "place"] := ⟨_, _, q_rank_look, PySem.W.mg_of X G a_rank_look, q_rank_look.binds (ps := ["function", "groups", "place"]) fun _ _ _ _ _ _ us hl => match us, hl with | [_, _, _], _ => rfl⟩
  have q_rank_looks := fun_mk (st := s_rank_looks) l_rank_looks c_rank_looks k_rank_looks
  have L_rank_looks : LeftX K mg "rank_looks" s_rank_looks ["function", "line"] [(["line", "function"], [1, 0])] := ⟨_, _, q_rank_looks, PySem.W.mg_of X G a_rank_looks, q_rank_looks.binds (ps := ["function", "line"]) fun _ _ _ _ _ _ us hl => match us, hl with | [_, _], _ => rfl, fun q hq => by
    rcases List.mem_cons.mp hq with rfl | hq
    · exact q_rank_looks.kb ["line", "function"] [1, 0] fun _ _ _ _ _ _ ws us hl hp => match ws, hl, hp with | [_, _], _, hp => by cases hp; rfl
    cases hq⟩
  have q_law_same := fun_mk (st := s_law_same) l_law_same c_law_same k_law_same
  have L_law_same : Left K mg "_law_same" s_law_same ["_law_found", "_law_due_here"] := ⟨_, _, q_law_same, PySem.W.mg_of X G a_law_same, q_law_same.binds (ps := ["_law_found", "_law_due_here"]) fun _ _ _ _ _ _ us hl => match us, hl with | [_, _], _ => rfl⟩
  have q_law_mixed := fun_mk (st := s_law_mixed) l_law_mixed c_law_mixed k_law_mixed
  have L_law_mixed : Left K mg "_law_mixed" s_law_mixed ["_law_box_here", "_law_matter"] := ⟨_, _, q_law_mixed, PySem.W.mg_of X G a_law_mixed, q_law_mixed.binds (ps := ["_law_box_here", "_law_matter"]) fun _ _ _ _ _ _ us hl => match us, hl with | [_, _], _ => rfl⟩
  have q_fraction := fun_mk (st := s_fraction) l_fraction c_fraction k_fraction
  have L_fraction : Left K mg "fraction" s_fraction ["numerator", "denominator"] := ⟨_, _, q_fraction, PySem.W.mg_of X G a_fraction, q_fraction.binds (ps := ["numerator", "denominator"]) fun _ _ _ _ _ _ us hl => match us, hl with | [_, _], _ => rfl⟩
  have q_sum_value := fun_mk (st := s_sum_value) l_sum_value c_sum_value k_sum_value
  have L_sum_value : Left K mg "sum_value" s_sum_value ["function", "taken"] := ⟨_, _, q_sum_value, PySem.W.mg_of X G a_sum_value, q_sum_value.binds (ps := ["function", "taken"]) fun _ _ _ _ _ _ us hl => match us, hl with | [_, _], _ => rfl⟩
  have q_tile := fun_mk (st := s_tile) l_tile c_tile k_tile
  have L_tile : Left K mg "_tile" s_tile ["tiles", "ahead", "rows"] := ⟨_, _, q_tile, PySem.W.mg_of X G a_tile, q_tile.binds (ps := ["tiles", "ahead", "rows"]) fun _ _ _ _ _ _ us hl => match us, hl with | [_, _, _], _ => rfl⟩
  have q_rank_value := fun_mk (st := s_rank_value) l_rank_value c_rank_value k_rank_value
  have L_rank_value : Left K mg "_rank_value" s_rank_value ["function", "arguments", "look"] := ⟨_, _, q_rank_value, PySem.W.mg_of X G a_rank_value, q_rank_value.binds (ps := ["function", "arguments", "look"]) fun _ _ _ _ _ _ us hl => match us, hl with | [_, _, _], _ => rfl⟩
  have q_offset_value := fun_mk (st := s_offset_value) l_offset_value c_offset_value k_offset_value
  have L_offset_value : Left K mg "_offset_value" s_offset_value ["function", "arguments", "look"] := ⟨_, _, q_offset_value, PySem.W.mg_of X G a_offset_value, q_offset_value.binds (ps := ["function", "arguments", "look"]) fun _ _ _ _ _ _ us hl => match us, hl with | [_, _, _], _ => rfl⟩
  have q_counted := fun_mk (st := s_counted) l_counted c_counted k_counted
  have L_counted : Left K mg "_counted" s_counted ["arguments", "look"] := ⟨_, _, q_counted, PySem.W.mg_of X G a_counted, q_counted.binds (ps := ["arguments", "look"]) fun _ _ _ _ _ _ us hl => match us, hl with | [_, _], _ => rfl⟩
  have q_call_value := fun_mk (st := s_call_value) l_call_value c_call_value k_call_value
  have L_call_value : LeftX K mg "call_value" s_call_value ["call", "look"] [(["look", "call"], [1, 0])] := ⟨_, _, q_call_value, PySem.W.mg_of X G a_call_value, q_call_value.binds (ps := ["call", "look"]) fun _ _ _ _ _ _ us hl => match us, hl with | [_, _], _ => rfl, fun q hq => by
    rcases List.mem_cons.mp hq with rfl | hq
    · exact q_call_value.kb ["look", "call"] [1, 0] fun _ _ _ _ _ _ ws us hl hp => match ws, hl, hp with | [_, _], _, hp => by cases hp; rfl
    cases hq⟩
  have q_law_tile := fun_mk (st := s_law_tile) l_law_tile c_law_tile k_law_tile
  have L_law_tile : Left K mg "_law_tile" s_law_tile ["_law_n", "_law_ahead", "_law_every"] := ⟨_, _, q_law_tile, PySem.W.mg_of X G a_law_tile, q_law_tile.binds (ps := ["_law_n", "_law_ahead", "_law_every"]) fun _ _ _ _ _ _ us hl => match us, hl with | [_, _, _], _ => rfl⟩
  have q_law_lowest := fun_mk (st := s_law_lowest) l_law_lowest c_law_lowest k_law_lowest
  have L_law_lowest : Left K mg "_law_lowest" s_law_lowest ["_law_above", "_law_under"] := ⟨_, _, q_law_lowest, PySem.W.mg_of X G a_law_lowest, q_law_lowest.binds (ps := ["_law_above", "_law_under"]) fun _ _ _ _ _ _ us hl => match us, hl with | [_, _], _ => rfl⟩
  have q_law_value := fun_mk (st := s_law_value) l_law_value c_law_value k_law_value
  have L_law_value : Left K mg "_law_value" s_law_value ["_law_deed", "_law_sight"] := ⟨_, _, q_law_value, PySem.W.mg_of X G a_law_value, q_law_value.binds (ps := ["_law_deed", "_law_sight"]) fun _ _ _ _ _ _ us hl => match us, hl with | [_, _], _ => rfl⟩
  have q_law_right := fun_mk (st := s_law_right) l_law_right c_law_right k_law_right
  have L_law_right : Left K mg "_law_right" s_law_right ["_law_box_here"] := ⟨_, _, q_law_right, PySem.W.mg_of X G a_law_right, q_law_right.binds (ps := ["_law_box_here"]) fun _ _ _ _ _ _ us hl => match us, hl with | [_], _ => rfl⟩
  have q_law := fun_mk (st := s_law) l_law c_law k_law
  refine ⟨PySem.W.fnOf "law" "law" (defArgs s_law) (defBody s_law) (defScope s_law) .none kV_law dc_law pm_law an_law cd_law ct_law, fun s v => .of_eq rfl, fun base _ _ => ?_⟩
  have o_law_box := own_law_box (P := l.prog) (w := w) (base := base) L_law_box y_abs y_int y_len
  have o_law_take := own_law_take (P := l.prog) (w := w) (base := base) L_law_take 2
  have o_law_of := own_law_of (P := l.prog) (w := w) (base := base) L_law_of y_len o_law_take
  have o_law_due := own_law_due (P := l.prog) (w := w) (base := base) L_law_due y_len y_set
  have o_rank_look := own_rank_look (P := l.prog) (w := w) (base := base) L_rank_look y_len
  have x_rank_looks := own_rank_looks (P := l.prog) (w := w) (base := base) L_rank_looks y_len y_range o_rank_look
  have o_law_same := own_law_same (P := l.prog) (w := w) (base := base) L_law_same y_all y_bool y_int y_isinstance y_len y_list y_str y_tuple y_zip 6
  have o_law_mixed := own_law_mixed (P := l.prog) (w := w) (base := base) L_law_mixed y_isinstance y_list y_tuple o_law_take 4
  have o_fraction := own_fraction (P := l.prog) (w := w) (base := base) L_fraction y_gcd
  have o_sum_value := own_sum_value (P := l.prog) (w := w) (base := base) L_sum_value y_len y_max y_min y_sum o_fraction
  have o_tile := own_tile (P := l.prog) (w := w) (base := base) L_tile y_divmod
  have o_rank_value := own_rank_value (P := l.prog) (w := w) (base := base) L_rank_value o_fraction o_tile
  have o_offset_value := own_offset_value (P := l.prog) (w := w) (base := base) L_offset_value y_len
  have o_counted := own_counted (P := l.prog) (w := w) (base := base) L_counted y_len y_list
  have x_call_value := own_call_value (P := l.prog) (w := w) (base := base) L_call_value t_OFFSETS g_OFFSETS t_RANKS g_RANKS o_sum_value o_rank_value o_offset_value o_counted
  have o_law_tile := own_law_tile (P := l.prog) (w := w) (base := base) L_law_tile y_int y_range y_sum
  have o_law_lowest := own_law_lowest (P := l.prog) (w := w) (base := base) L_law_lowest y_abs
  have o_law_value := own_law_value (P := l.prog) (w := w) (base := base) L_law_value y_enumerate y_int y_len y_list y_max y_min y_sum o_law_tile o_law_lowest
  have o_law_right := own_law_right (P := l.prog) (w := w) (base := base) L_law_right y_int y_len y_list y_range y_tuple o_law_take o_law_of o_law_due x_rank_looks o_law_same o_law_mixed x_call_value o_law_value
  exact law_ok q_law y_all y_len y_min y_range o_law_box o_law_right
end Pr
set_option Elab.async false
set_option linter.all false
set_option maxRecDepth 100000
set_option maxHeartbeats 1000000
namespace Pr
open PySem PySem.Spec PyProof.Rows L2 BV
/-! the box of draws -/
def BoxR (k : Int) (b : List D) : Prop := ∃ x y z : Int, b = [.int x, .int y, .int z] ∧ 0 ≤ x ∧ 0 ≤ z ∧ z ≤ k
theorem BoxR.mono {k j : Int} {b : List D} (h : BoxR k b) (hj : k ≤ j) : BoxR j b := let ⟨x, y, z, e, h1, h2, h3⟩ := h; ⟨x, y, z, e, h1, h2, by omega⟩
theorem take_s {m : Nat} {k n : Int} {b : List D} {P T : Sto} {Q : QE} (hb : BoxR k b) (hk : k ≤ 1000000) (h0 : 0 < n) (h1 : n ≤ 10000000)
    (hQ : ∀ (r : Int) (b' : List D), 0 ≤ r → r < n → BoxR (k + 1) b' → Q (.dat (.int r), St P b' T)) : ok (F_law_take (m + 1) [.hd P.length, .dat (.int n)] (St P b T)) Q := by
  obtain ⟨x, y, z, rfl, hx, hz, hzk⟩ := hb
  have h2 : n < 18446744073709551616 := by omega
  by_cases hx0 : 0 < x
  · simp -implicitDefEqProofs [F_law_take_s, w_body, hx0, h0, h2]
    exact hQ _ _ (Int.emod_nonneg _ (by omega)) (Int.emod_lt_of_pos _ h0) ⟨_, _, _, rfl, Int.ediv_nonneg (by omega) (by omega), by omega, by omega⟩
  · have h3 : ¬ 10000000 < n := by omega
    simp -implicitDefEqProofs [F_law_take_s, w_body, hx0, h0, h2, h3]
    refine ⟨.inr (by omega), .inr ?_, hQ _ _ (Int.emod_nonneg _ (by omega)) (Int.emod_lt_of_pos _ h0) ⟨_, _, _, rfl, by omega, by omega, by omega⟩⟩
    omega
/-- a great draw -/
theorem take_b {m : Nat} {k n : Int} {b : List D} {P T : Sto} {Q : QE} (hb : BoxR k b) (hk : k ≤ 999990) (h0 : 10000000 < n) (h1 : n ≤ 90000000000000)
    (hQ : ∀ (r : Int) (b' : List D), 0 ≤ r → r < n → BoxR (k + 2) b' → Q (.dat (.int r), St P b' T)) : ok (F_law_take (m + 2) [.hd P.length, .dat (.int n)] (St P b T)) Q := by
  by_cases hx0 : ∃ x y z : Int, b = [.int x, .int y, .int z] ∧ 0 < x
  · obtain ⟨x, y, z, rfl, hx0⟩ := hx0
    obtain ⟨x', y', z', e, hx, hz, hzk⟩ := hb
    cases e
    have h2 : n < 18446744073709551616 := by omega
    have h3 : 0 < n := by omega
    simp -implicitDefEqProofs [F_law_take_s, w_body, hx0, h3, h2]
    exact hQ _ _ (Int.emod_nonneg _ (by omega)) (Int.emod_lt_of_pos _ h3) ⟨_, _, _, rfl, Int.ediv_nonneg (by omega) (by omega), by omega, by omega⟩
  · obtain ⟨x, y, z, e, hx, hz, hzk⟩ := id hb
    have hx1 : ¬ 0 < x := fun h => hx0 ⟨x, y, z, e, h⟩
    have h3 : 0 < n := by omega
    have hF := F_law_take_s (m + 1)
    rw [hF]
    subst e
    simp -implicitDefEqProofs [w_body, hx1, h0]
    refine take_s hb (by omega) (by omega) (by omega) fun r1 b1 p1 p2 hb1 => ?_
    simp -implicitDefEqProofs
    refine take_s hb1 (by omega) (by omega) (by omega) fun r2 b2 p3 p4 hb2 => ?_
    simp -implicitDefEqProofs [h3]
    exact hQ _ _ (Int.emod_nonneg _ (by omega)) (Int.emod_lt_of_pos _ h3) (by have : k + 1 + 1 = k + 2 := by omega
                                                                              rw [← this]; exact hb2)
theorem of_s {k : Int} {b : List D} {P T : Sto} {Q : QE} (ds : List D) (hb : BoxR k b) (hk : k ≤ 999990) (h0 : ds ≠ []) (h1 : ds.length ≤ 1000)
    (hQ : ∀ (d : D) (b' : List D), d ∈ ds → BoxR (k + 1) b' → Q (.dat d, St P b' T)) : ok (F_law_of [.hd P.length, .dat (.list ds)] (St P b T)) Q := by
  have hl : 0 < ds.length := List.length_pos_iff.mpr h0
  simp -implicitDefEqProofs [F_law_of, w_body]
  refine take_s hb (by omega) (by omega) (by omega) fun r b' p1 p2 hb' => ?_
  obtain ⟨j, rfl⟩ : ∃ j : Nat, r = j := ⟨r.toNat, by omega⟩
  have hj : j < ds.length := by omega
  simp -implicitDefEqProofs [at_nat, List.getElem?_eq_getElem hj]
  exact hQ _ _ (List.getElem_mem hj) hb'
/-! equal, and of the same kinds -/
def fine : Nat → D → Bool
  | _, .none => true
  | _, .bool _ => true
  | _, .int _ => true
  | _, .str x => PyData.strOk x
  | n + 1, .list ds => decide (ds.length ≤ 1000000) && ds.all (fine n)
  | n + 1, .tuple ds => decide (ds.length ≤ 1000000) && ds.all (fine n)
  | _, _ => false
theorem fine_lay : ∀ {n : Nat} {d : D}, fine n d = true → lay n d = true
  | _, .none, _ => lay_non
  | _, .bool _, _ => lay_bool
  | _, .int _, _ => lay_int
  | _, .str x, h => by rw [lay_str]; simpa [fine] using h
  | 0, .list ds, h => by simp [fine] at h
  | 0, .tuple ds, h => by simp [fine] at h
  | n + 1, .list ds, h => by
    simp only [fine, Bool.and_eq_true, List.all_eq_true] at h
    rw [lay_list, List.all_eq_true]
    exact fun x hx => fine_lay (h.2 x hx)
  | n + 1, .tuple ds, h => by
    simp only [fine, Bool.and_eq_true, List.all_eq_true] at h
    rw [lay_tuple, List.all_eq_true]
    exact fun x hx => fine_lay (h.2 x hx)
  | n, .dict _, h => by cases n <;> simp [fine] at h
theorem zip_self (ds : List D) : zipD ds ds = ds.map fun d => .tuple [d, d] := by
  induction ds with
  | nil => rfl
  | cons d ds ih => rw [zipD, ih, List.map_cons]
theorem bools_true {α : Type} : ∀ l : List α, bools (l.map fun _ => PyData.bool true) = some (l.map fun _ => true) := bools_map _
theorem all_yes {α : Type} (l : List α) : (l.all fun _ => true) = true := List.all_eq_true.mpr fun _ _ => rfl
theorem same_r : ∀ (n : Nat) (d : D), n ≤ 60 → fine n d = true → ∀ (S : Sto) (Q : QE), Q (.dat (.bool true), S) → ok (F_law_same (n + 1) [.dat d, .dat d] S) Q := by
  intro n
  induction n with
  | zero =>
    intro d hn hf S Q hQ
    cases d with
    | none => simpa -implicitDefEqProofs [F_law_same_s, w_body, isB] using hQ
    | bool b => simpa -implicitDefEqProofs [F_law_same_s, w_body, isB] using hQ
    | int i => simpa -implicitDefEqProofs [F_law_same_s, w_body, isB] using hQ
    | str x => simpa -implicitDefEqProofs [F_law_same_s, w_body, isB, show PyData.strOk x = true by simpa [fine] using hf] using hQ
    | _ => simp [fine] at hf
  | succ n ih =>
    intro d hn hf S Q hQ
    have hF := F_law_same_s (n + 1)
    rw [hF]
    cases d with
    | none => simpa -implicitDefEqProofs [w_body, isB] using hQ
    | bool b => simpa -implicitDefEqProofs [w_body, isB] using hQ
    | int i => simpa -implicitDefEqProofs [w_body, isB] using hQ
    | str x => simpa -implicitDefEqProofs [w_body, isB, show PyData.strOk x = true by simpa [fine] using hf] using hQ
    | list ds =>
      simp only [fine, Bool.and_eq_true, decide_eq_true_eq, List.all_eq_true] at hf
      simp -implicitDefEqProofs [w_body, isB]
      refine lc_map (fun d => .tuple [d, d]) ds (fun _ => .bool true) (zip_self ds) trivial (by omega) (fun d hd => ?_) ?_
      · simp -implicitDefEqProofs [wipeE]
        exact ih d (by omega) (hf.2 d hd) S _ (by simp -implicitDefEqProofs)
      · simpa -implicitDefEqProofs [bools_true, all_yes] using hQ
    | tuple ds =>
      simp only [fine, Bool.and_eq_true, decide_eq_true_eq, List.all_eq_true] at hf
      simp -implicitDefEqProofs [w_body, isB]
      refine lc_map (fun d => .tuple [d, d]) ds (fun _ => .bool true) (zip_self ds) trivial (by omega) (fun d hd => ?_) ?_
      · simp -implicitDefEqProofs [wipeE]
        exact ih d (by omega) (hf.2 d hd) S _ (by simp -implicitDefEqProofs)
      · simpa -implicitDefEqProofs [bools_true, all_yes] using hQ
    | dict _ => simp [fine] at hf
end Pr
set_option Elab.async false
set_option linter.all false
set_option maxRecDepth 100000
set_option maxHeartbeats 1000000
namespace Pr
open PySem PySem.Spec PyProof.Rows L2 BV
/-! fractions -/
theorem gcd_pos' {a n : Int} (h : 0 < n) : 0 < (Int.gcd a n : Int) ∧ (Int.gcd a n : Int) ≤ n := by
  have : 0 < Int.gcd a n := Int.gcd_pos_of_ne_zero_right _ (by omega)
  exact ⟨by omega, Int.le_of_dvd h (Int.gcd_dvd_right ..)⟩
theorem frac_s {a n : Int} {S : Sto} {Q : QE} (h : 0 < n) (hn : n < 1000000) (hQ : Q (.dat (.tuple [.int (a / (Int.gcd a n : Int)), .int (n / (Int.gcd a n : Int))]), S)) : ok (F_fraction [.dat (.int a), .dat (.int n)] S) Q := by
  obtain ⟨h1, h2⟩ := gcd_pos' (a := a) h
  have e : ((a.natAbs.gcd n.natAbs : Nat) : Int) = (Int.gcd a n : Int) := rfl
  simp -implicitDefEqProofs only [F_fraction]
  generalize (Int.gcd a n : Int) = g at *
  simp -implicitDefEqProofs [w_body, e, h1]
  exact ⟨by omega, hQ⟩
theorem low_s {a n : Int} {S : Sto} {Q : QE} (h : 0 < n) (hn : n < 100000) (hQ : Q (.dat (.tuple [.int (a / (Int.gcd a n : Int)), .int (n / (Int.gcd a n : Int))]), S)) : ok (F_law_lowest [.dat (.int a), .dat (.int n)] S) Q := by
  obtain ⟨h1, h2⟩ := gcd_pos' (a := a) h
  have ha : 0 ≤ (if a < 0 then -a else a) ∧ (Int.gcd (if a < 0 then -a else a) n) = Int.gcd a n := by
    split
    · exact ⟨by omega, by rw [Int.neg_gcd]⟩
    · exact ⟨by omega, rfl⟩
  simp -implicitDefEqProofs [F_law_lowest, w_body]
  generalize (if a < 0 then -a else a) = b at *
  obtain ⟨hb, hg⟩ := ha
  rw [← hg] at hQ h1 h2
  refine while_inv (fun m η S' => S' = S ∧ ∃ x y : Int, η = [some (.dat (.int a)), some (.dat (.int n)), some (.dat (.int x)), some (.dat (.int y))] ∧ 0 ≤ x ∧ 0 ≤ y ∧ Int.gcd x y = Int.gcd b n ∧ ((y < x ∧ y ≤ m) ∨ (x ≤ y ∧ x + 1 ≤ m))) ?_ (n.toNat + 1) wfuel _ S ⟨rfl, n, b, rfl, by omega, hb, Int.gcd_comm .., by omega⟩ (by unfold wfuel; omega)
  rintro m η _ ⟨rfl, x, y, rfl, hx, hy, hxy, hm⟩
  by_cases hy0 : 0 < y
  · have e1 := Int.emod_nonneg x (show y ≠ 0 by omega)
    have e2 := Int.emod_lt_of_pos x hy0
    have e3 : x < y → x % y = x := fun z => Int.emod_eq_of_lt hx z
    have e4 : x = y → x % y = 0 := fun z => by rw [z, Int.emod_self]
    have eg : Int.gcd y (x % y) = Int.gcd b n := by
      rw [← hxy]
      show Nat.gcd y.natAbs (x % y).natAbs = Nat.gcd x.natAbs y.natAbs
      rw [Int.natAbs_emod_of_nonneg hx, Nat.gcd_comm y.natAbs, ← Nat.gcd_rec, Nat.gcd_comm]
    simp -implicitDefEqProofs [hy0]
    generalize x % y = z at *

    exact ⟨by omega, y, z, ⟨rfl, rfl⟩, by omega, e1, eg, by omega⟩
  · have y0 : y = 0 := by omega
    subst y0
    have hx2 : x = (Int.gcd b n : Int) := by
      rw [← hxy, Int.gcd_zero_right]; omega
    simp -implicitDefEqProofs
    generalize (Int.gcd b n : Int) = g at *
    subst hx2

    exact ⟨⟨by omega, by omega⟩, hQ⟩
end Pr
set_option Elab.async false
set_option linter.all false
set_option maxRecDepth 100000
set_option maxHeartbeats 1000000
namespace Pr
open PySem PySem.Spec PyProof.Rows L2 BV
/-! lists for tuples here and there -/
def Mx : Nat → D → D → Prop
  | n + 1, .list ds, d' => ∃ es, (d' = .list es ∨ d' = .tuple es) ∧ es.length = ds.length ∧ ∀ (i : Nat) (d e : D), ds[i]? = some d → es[i]? = some e → Mx n d e
  | n + 1, .tuple ds, d' => ∃ es, (d' = .list es ∨ d' = .tuple es) ∧ es.length = ds.length ∧ ∀ (i : Nat) (d e : D), ds[i]? = some d → es[i]? = some e → Mx n d e
  | _, d, d' => d' = d
/-- how many draws at most, and no dict, no deeper -/
def wide (w : Nat) : Nat → Nat
  | 0 => 0
  | n + 1 => 1 + w * wide w n
def slim (w : Nat) : Nat → D → Prop
  | n + 1, .list ds => ds.length ≤ w ∧ ∀ d ∈ ds, slim w n d
  | n + 1, .tuple ds => ds.length ≤ w ∧ ∀ d ∈ ds, slim w n d
  | _, .list _ => False
  | _, .tuple _ => False
  | _, .dict _ => False
  | _, _ => True
theorem Mx_at {n : Nat} {d : D} (h1 : ∀ x, d ≠ .list x) (h2 : ∀ x, d ≠ .tuple x) : Mx n d d := by
  cases n <;> cases d <;> first | (simp [Mx]; done) | exact absurd rfl (h1 _) | exact absurd rfl (h2 _)
def MixI (k : Int) (w n : Nat) (P T : Sto) (ds : List D) (i : Nat) (S : Sto) (acc : List D) : Prop := ∃ b, S = St P b T ∧ BoxR (k + i * wide w n) b ∧ acc.length = i ∧ ∀ (j : Nat) (d e : D), ds[j]? = some d → acc[j]? = some e → Mx n d e
theorem mixed_s (w : Nat) (hw : w ≤ 1000) : ∀ (n : Nat) (d : D), slim w n d → ∀ {k : Int} {b : List D} {P T : Sto} {Q : QE}, BoxR k b → k + wide w n ≤ 900000 →
    (∀ d' b', Mx n d d' → BoxR (k + wide w n) b' → Q (.dat d', St P b' T)) → ok (F_law_mixed (n + 1) [.hd P.length, .dat d] (St P b T)) Q := by
  intro n
  induction n with
  | zero =>
    intro d hd k b P T Q hb hk hQ
    have hQ' := hQ d b (by cases d <;> first | (simp [Mx]; done) | (simp [slim] at hd; done)) (by simpa [wide] using hb)
    cases d with
    | none => simpa -implicitDefEqProofs [F_law_mixed_s, w_body, isB] using hQ'
    | bool _ => simpa -implicitDefEqProofs [F_law_mixed_s, w_body, isB] using hQ'
    | int _ => simpa -implicitDefEqProofs [F_law_mixed_s, w_body, isB] using hQ'
    | str _ => simpa -implicitDefEqProofs [F_law_mixed_s, w_body, isB] using hQ'
    | list _ => simp [slim] at hd
    | tuple _ => simp [slim] at hd
    | dict _ => simp [slim] at hd
  | succ n ih =>
    intro d hd k b P T Q hb hk hQ
    have seq : ∀ ds : List D, (d = .list ds ∨ d = .tuple ds) → ds.length ≤ w → (∀ d ∈ ds, slim w n d) → ok (F_law_mixed (n + 1 + 1) [.hd P.length, .dat d] (St P b T)) Q := by
      intro ds hds hl hm
      have hMx : ∀ es, es.length = ds.length → (∀ (i : Nat) (d e : D), ds[i]? = some d → es[i]? = some e → Mx n d e) → Mx (n + 1) d (.list es) ∧ Mx (n + 1) d (.tuple es) := by
        intro es h1 h2
        rcases hds with rfl | rfl
        · exact ⟨⟨es, .inl rfl, h1, h2⟩, ⟨es, .inr rfl, h1, h2⟩⟩
        · exact ⟨⟨es, .inl rfl, h1, h2⟩, ⟨es, .inr rfl, h1, h2⟩⟩
      have hF := F_law_mixed_s (n + 1)
      rw [hF]
      have hlw : (ds.length : Int) * wide w n ≤ w * wide w n := by exact_mod_cast Nat.mul_le_mul_right _ hl
      have hk2 : k + 1 + w * wide w n ≤ 900000 := by simp only [wide] at hk; omega
      have go : kLc [3] (bName 3) mYes (mFn 2 (F_law_mixed (n + 1)) (mCons (mVar 0) (mCons (mVar 3) mNil))) [some (.hd P.length), some (.dat d), none, none] (fun p => ∃ es b', p = (.new es, St P b' T) ∧ BoxR (k + ds.length * wide w n) b' ∧ es.length = ds.length ∧ ∀ (j : Nat) (d e : D), ds[j]? = some d → es[j]? = some e → Mx n d e) (ds, none, St P b T) := by
        refine lc_inv (MixI k w n P T ds) ⟨b, rfl, by simpa using hb, rfl, by simp⟩ (by omega) (fun i S acc ⟨_, _, _, h, _⟩ => by omega) ?_ ?_
        · rintro i S acc x hx ⟨b1, rfl, hb1, hl1, hm1⟩
          have hi : i < ds.length := (List.getElem?_eq_some_iff.mp hx).1
          have hiw : (i : Int) * wide w n + wide w n ≤ w * wide w n := by
            have : (i + 1) * wide w n ≤ w * wide w n := Nat.mul_le_mul_right _ (by omega)
            have e : (i + 1) * wide w n = i * wide w n + wide w n := by rw [Nat.add_mul, Nat.one_mul]
            rw [e] at this
            exact_mod_cast this
          simp -implicitDefEqProofs [wipeE]
          refine ih x (hm x (List.mem_of_getElem? hx)) hb1 (by omega) fun d' b2 hd' hb2 => ?_
          simp -implicitDefEqProofs
          refine ⟨b2, rfl, ?_, by simp [hl1], ?_⟩
          · have e : ((i + 1 : Nat) : Int) * wide w n = i * wide w n + wide w n := by push_cast; rw [Int.add_mul, Int.one_mul]
            rw [e]
            exact hb2.mono (by omega)
          · intro j y e hy he
            by_cases hj : j < acc.length
            · rw [List.getElem?_append_left hj] at he
              exact hm1 j y e hy he
            · have hj2 : j = acc.length := by
                have := (List.getElem?_eq_some_iff.mp he).1
                simp at this; omega
              subst hj2
              rw [List.getElem?_append_right (Nat.le_refl _), Nat.sub_self] at he
              cases he
              rw [hl1, hx] at hy
              cases hy
              exact hd'
        · rintro S acc ⟨b1, rfl, hb1, hl1, hm1⟩
          exact ⟨acc, b1, rfl, hb1, hl1, hm1⟩
      have fin : ∀ (es : List D) (b1 : List D), BoxR (k + ds.length * wide w n) b1 → es.length = ds.length → (∀ (j : Nat) (d e : D), ds[j]? = some d → es[j]? = some e → Mx n d e) →
          ok (F_law_take 2 [.hd P.length, .dat (.int 2)] (St P b1 T)) fun p => ∃ r b', p = (.dat (.int r), St P b' T) ∧ BoxR (k + wide w (n + 1)) b' := fun es b1 h1 h2 h3 =>
        take_s h1 (by omega) (by omega) (by omega) fun r b' _ _ hb' => ⟨r, b', rfl, hb'.mono (by simp only [wide]; push_cast; omega)⟩
      have both : ok (F_law_mixed (n + 1 + 1) [.hd P.length, .dat d] (St P b T)) Q := by
        rw [hF]
        rcases hds with rfl | rfl
        · simp -implicitDefEqProofs [w_body, isB]
          refine lc_mono go ?_
          rintro _ ⟨es, b1, rfl, hb1, he1, he2⟩
          simp -implicitDefEqProofs [isB]
          refine ok_mono (fin es b1 hb1 he1 he2) ?_
          rintro _ ⟨r, b2, rfl, hb2⟩
          simp -implicitDefEqProofs [isB]
          by_cases hr : 0 < r
          · simp -implicitDefEqProofs [hr]
            exact hQ _ _ (hMx es he1 he2).2 hb2
          · simp -implicitDefEqProofs [hr]
            exact hQ _ _ (hMx es he1 he2).1 hb2
        · simp -implicitDefEqProofs [w_body, isB]
          refine lc_mono go ?_
          rintro _ ⟨es, b1, rfl, hb1, he1, he2⟩
          simp -implicitDefEqProofs [isB]
          refine ok_mono (fin es b1 hb1 he1 he2) ?_
          rintro _ ⟨r, b2, rfl, hb2⟩
          simp -implicitDefEqProofs [isB]
          by_cases hr : 0 < r
          · simp -implicitDefEqProofs [hr]
            exact hQ _ _ (hMx es he1 he2).2 hb2
          · simp -implicitDefEqProofs [hr]
            exact hQ _ _ (hMx es he1 he2).1 hb2
      rw [hF] at both
      exact both
    cases d with
    | none => have hQ' := hQ _ b (Mx_at (by intro x; simp) (by intro x; simp)) (hb.mono (by omega)); simpa -implicitDefEqProofs [F_law_mixed_s, w_body, isB] using hQ'
    | bool _ => have hQ' := hQ _ b (Mx_at (by intro x; simp) (by intro x; simp)) (hb.mono (by omega)); simpa -implicitDefEqProofs [F_law_mixed_s, w_body, isB] using hQ'
    | int _ => have hQ' := hQ _ b (Mx_at (by intro x; simp) (by intro x; simp)) (hb.mono (by omega)); simpa -implicitDefEqProofs [F_law_mixed_s, w_body, isB] using hQ'
    | str _ => have hQ' := hQ _ b (Mx_at (by intro x; simp) (by intro x; simp)) (hb.mono (by omega)); simpa -implicitDefEqProofs [F_law_mixed_s, w_body, isB] using hQ'
    | list ds => exact seq ds (.inl rfl) hd.1 hd.2
    | tuple ds => exact seq ds (.inr rfl) hd.1 hd.2
    | dict _ => simp [slim] at hd
end Pr
set_option Elab.async false
set_option linter.all false
set_option maxRecDepth 100000
set_option maxHeartbeats 1000000
namespace Pr
open PySem PySem.Spec PyProof.Rows L2 BV
inductive Wd | row | rank | dense | percent | share | tile
def wd : Wd → String
  | .row => "row" | .rank => "rank" | .dense => "dense" | .percent => "percent" | .share => "share" | .tile => "tile"
def lk (gs : List Int) (p : Nat) (x : Int) : Wd → List Int
  | .row => [p] | .rank => [gs.idxOf x] | .dense => [x] | .percent => [gs.idxOf x, gs.length] | .share => [gs.idxOf x + gs.count x, gs.length] | .tile => [p, gs.length]
def lkD (c : Wd) (gs : List Int) (p : Nat) : D := .tuple ((lk gs p (gs.getD p 0) c).map .int)
theorem ints_id (is : List Int) : intsD (is.map .int) = some is := by rw [intsD_map' (fun i => i)]; simp
theorem look_s {gs : List Int} {p : Nat} (hp : p < gs.length) (h : gs.length ≤ 1000) (c : Wd) {S : Sto} {Q : QE} (hQ : Q (.dat (lkD c gs p), S)) : ok (F_rank_look [.dat (.str (wd c)), .dat (.list (gs.map .int)), .dat (.int p)] S) Q := by
  have e : (gs.map PyData.int)[p]? = some (.int gs[p]) := by rw [List.getElem?_map, List.getElem?_eq_getElem hp]; rfl
  have e2 : gs.getD p 0 = gs[p] := by rw [List.getD_eq_getElem?_getD, List.getElem?_eq_getElem hp]; rfl
  have hl : (gs.map PyData.int).all (lay 63) = true := by simp
  unfold lkD at hQ
  rw [e2] at hQ
  cases c <;> simp -implicitDefEqProofs [F_rank_look, w_body, wd, at_nat, e, firstAt_ints _ gs (List.getElem_mem hp), ints_id] <;> simpa [lk] using hQ
theorem looks_s {gs : List Int} (h : gs.length ≤ 1000) (c : Wd) (ds : List D) (hds : ds.length = gs.length) (hd : ∀ (i : Nat) (d : D) (g : Int), ds[i]? = some d → gs[i]? = some g → ∃ v, d = .tuple [.int g, v] ∨ d = .list [.int g, v]) (y : D) (l x : D)
    (hx : l = .tuple [x, y] ∨ l = .list [x, y]) (hy : y = .tuple ds ∨ y = .list ds) {S : Sto} {Q : QE} (hQ : Q (.new ((List.range gs.length).map (lkD c gs)), S)) : ok (F_rank_looks [.dat (.str (wd c)), .dat l] S) Q := by
  have one : kLc [3, 4] (bTup 2 (bCons (bName 3) (bCons (bName 4) bNil))) mYes (mVar 3) [some (.dat (.str (wd c))), some (.dat l), none, none, none, none] (fun p => p = (.new (gs.map .int), S)) (ds, none, S) := by
    refine lc_map (fun i => ds.getD i .none) (List.range ds.length) (fun i => .int (gs.getD i 0)) ?_ trivial (by simp; omega) ?_ ?_
    · refine List.ext_getElem (by simp) fun i h1 h2 => ?_
      simp [List.getElem?_eq_getElem h1]
    · intro i hi
      have hi := List.mem_range.mp hi
      have hg : i < gs.length := by omega
      obtain ⟨v, hv⟩ := hd i ds[i] gs[i] (List.getElem?_eq_getElem hi) (List.getElem?_eq_getElem hg)
      simp only [List.getD_eq_getElem?_getD, List.getElem?_eq_getElem hi, List.getElem?_eq_getElem hg, Option.getD_some]
      rcases hv with hv | hv
      · rw [hv]; simp -implicitDefEqProofs [wipeE]
      · rw [hv]; simp -implicitDefEqProofs [wipeE]
    · have : (List.range ds.length).map (fun i => PyData.int (gs.getD i 0)) = gs.map .int := by
        refine List.ext_getElem (by simp [hds]) fun i h1 h2 => ?_
        have : i < gs.length := by simpa using h2
        simp [List.getElem?_eq_getElem this]
      rw [this]
  rcases hx with rfl | rfl <;> rcases hy with rfl | rfl <;> simp -implicitDefEqProofs [F_rank_looks, w_body] <;> refine lc_mono one ?_ <;> rintro _ rfl <;> simp -implicitDefEqProofs <;>
    exact ⟨by omega, lcR (lkD c gs) (by omega) (fun p hp => by
      simp -implicitDefEqProofs [wipeE]
      exact look_s hp h c (by simp -implicitDefEqProofs)) (by simpa -implicitDefEqProofs using hQ)⟩
/-! the law's own looks -/
structure Gr (gs : List Int) (n : Nat) : Prop where
  so : gs.Pairwise (· ≤ ·)
  le : ∀ x ∈ gs, 0 ≤ x ∧ x < n
  al : ∀ x : Int, 0 ≤ x → x < n → x ∈ gs
theorem Gr.nil : Gr [] 0 := ⟨.nil, fun x h => absurd h List.not_mem_nil, fun x h1 h2 => by omega⟩
theorem Gr.step {gs : List Int} {n : Nat} (h : Gr gs n) {c : Nat} (hc : 0 < c) : Gr (gs ++ List.replicate c (n : Int)) (n + 1) := by
  refine ⟨?_, ?_, ?_⟩
  · rw [List.pairwise_append]
    refine ⟨h.so, List.pairwise_replicate.mpr (.inr (Int.le_refl _)), fun a ha b hb => ?_⟩
    have := h.le a ha
    rw [(List.mem_replicate.mp hb).2]; omega
  · intro x hx
    rcases List.mem_append.mp hx with hx | hx
    · have := h.le x hx; omega
    · rw [(List.mem_replicate.mp hx).2]; omega
  · intro x h1 h2
    by_cases hx : x < n
    · exact List.mem_append_left _ (h.al x h1 hx)
    · exact List.mem_append_right _ (List.mem_replicate.mpr ⟨by omega, by omega⟩)
theorem idx_so : ∀ {gs : List Int}, gs.Pairwise (· ≤ ·) → ∀ x ∈ gs, gs.idxOf x = (gs.filter fun g => decide (g < x)).length
  | [], _, x, h => absurd h List.not_mem_nil
  | y :: gs, hp, x, hx => by
    obtain ⟨h1, h2⟩ := List.pairwise_cons.mp hp
    rw [List.idxOf_cons]
    by_cases hy : y = x
    · subst hy
      have : (y :: gs).filter (fun g => decide (g < y)) = [] := by
        rw [List.filter_eq_nil_iff]
        intro a ha
        rcases List.mem_cons.mp ha with rfl | ha
        · simp
        · have := h1 a ha; simp; omega
      rw [this]; simp
    · have hx' : x ∈ gs := (List.mem_cons.mp hx).resolve_left (Ne.symm hy)
      have : y < x := by have := h1 x hx'; omega
      have hb : (y == x) = false := by simpa using hy
      rw [hb, List.filter_cons, if_pos (by simpa using this), List.length_cons, ← idx_so h2 x hx']; rfl
theorem three (x : Int) : ∀ gs : List Int, (gs.filter fun g => decide (g < x)).length + gs.count x + (gs.filter fun g => decide (x < g)).length = gs.length
  | [] => rfl
  | y :: gs => by
    have := three x gs
    simp only [List.filter_cons, List.count_cons, List.length_cons]
    by_cases h1 : y < x
    · have h2 : ¬ x < y := by omega
      have h3 : (y == x) = false := by simp; omega
      simp [h1, h2, h3]; omega
    · by_cases h2 : x < y
      · have h3 : (y == x) = false := by simp; omega
        simp [h1, h2, h3]; omega
      · have h3 : y = x := by omega
        subst h3
        simp; omega
theorem uL_nodup (l : List Int) : (uL l).Nodup := by
  have key : ∀ (l acc : List Int), acc.Nodup → (l.foldl (fun acc x => if x ∈ acc then acc else acc ++ [x]) acc).Nodup := fun l => by
    induction l with
    | nil => intro acc h; exact h
    | cons x l ih =>
      intro acc h
      rw [List.foldl_cons]
      refine ih _ ?_
      split
      · exact h
      · rename_i hx
        rw [List.nodup_append]
        refine ⟨h, List.pairwise_singleton .., fun a ha b hb => ?_⟩
        rw [List.mem_singleton.mp hb]
        exact fun e => hx (e ▸ ha)
  exact key l [] .nil
theorem dense_n {gs : List Int} {n : Nat} (h : Gr gs n) {x : Int} (hx : x ∈ gs) : ((uL (gs.filter fun g => decide (g < x))).length : Int) = x := by
  have hx' := h.le x hx
  have e : (uL (gs.filter fun g => decide (g < x))).Perm ((List.range x.toNat).map fun i : Nat => (i : Int)) := by
    rw [List.perm_ext_iff_of_nodup (uL_nodup _) ?_]
    · intro a
      rw [mem_uL, List.mem_filter, List.mem_map]
      constructor
      · rintro ⟨h1, h2⟩
        have := h.le a h1
        have h2 : a < x := by simpa using h2
        exact ⟨a.toNat, by rw [List.mem_range]; omega, by omega⟩
      · rintro ⟨i, hi, rfl⟩
        rw [List.mem_range] at hi
        exact ⟨h.al _ (by omega) (by omega), by simp; omega⟩
    · rw [List.Nodup, List.pairwise_map]
      exact List.nodup_range.imp fun {a b} h e => h (by omega)
  rw [e.length_eq, List.length_map, List.length_range]; omega
theorem due_s {gs : List Int} {n p : Nat} (hG : Gr gs n) (hp : p < gs.length) (h : gs.length ≤ 1000) (c : Wd) {S : Sto} {Q : QE} (hQ : Q (.dat (lkD c gs p), S)) : ok (F_law_due [.dat (.str (wd c)), .dat (.list (gs.map .int)), .dat (.int p)] S) Q := by
  have e : (gs.map PyData.int)[p]? = some (.int gs[p]) := by rw [List.getElem?_map, List.getElem?_eq_getElem hp]; rfl
  have e2 : gs.getD p 0 = gs[p] := by rw [List.getD_eq_getElem?_getD, List.getElem?_eq_getElem hp]; rfl
  have hm := List.getElem_mem hp
  have e3 := idx_so hG.so _ hm
  have e4 := three gs[p] gs
  have e5 := dense_n hG hm
  unfold lkD at hQ
  rw [e2] at hQ
  simp -implicitDefEqProofs [F_law_due, w_body, at_nat, e]
  refine lcNF (fun g => decide (g < gs[p])) .int (by omega) (fun i hi => ?_) ?_
  · by_cases hi : i < gs[p] <;> simp -implicitDefEqProofs [wipeE, hi]
  simp -implicitDefEqProofs
  refine lcNF (fun g => decide (gs[p] < g)) .int (by omega) (fun i hi => ?_) ?_
  · by_cases hi : gs[p] < i <;> simp -implicitDefEqProofs [wipeE, hi]
  cases c <;> simp -implicitDefEqProofs [wd]
  case dense =>
    refine lcNF (fun g => decide (g < gs[p])) .int (by omega) (fun i hi => ?_) ?_
    · by_cases hi : i < gs[p] <;> simp -implicitDefEqProofs [wipeE, hi]
    simp -implicitDefEqProofs
    have := List.length_filter_le (fun g => decide (g < gs[p])) gs
    rw [e5]
    exact ⟨by omega, by simpa [lk] using hQ⟩
  case share =>
    have : (gs.length : Int) - ((gs.filter fun g => decide (gs[p] < g)).length : Int) = (gs.idxOf gs[p] : Int) + (gs.count gs[p] : Int) := by omega
    rw [this]
    simpa [lk] using hQ
  all_goals (try rw [← e3])
  all_goals simpa [lk] using hQ
end Pr
set_option Elab.async false
set_option linter.all false
set_option maxRecDepth 100000
set_option maxHeartbeats 1000000
namespace Pr
open PySem PySem.Spec PyProof.Rows L2 BV
/-! tiles -/
def tileN (n a r : Int) : Int := if a < r % n * (r / n + 1) then a / (r / n + 1) + 1 else r % n + (a - r % n * (r / n + 1)) / (r / n) + 1
theorem tile_p {n a r : Int} (hn : 0 < n) (hn2 : n ≤ 1000) (ha : 0 ≤ a) (har : a < r) (hr : r ≤ 1000) {S : Sto} {Q : QE} (hQ : Q (.dat (.int (tileN n a r)), S)) : ok (F_tile [.dat (.int n), .dat (.int a), .dat (.int r)] S) Q := by
  have h1 := Int.emod_nonneg r (show n ≠ 0 by omega)
  have h2 := Int.emod_lt_of_pos r hn
  have h3 : 0 ≤ r / n := Int.ediv_nonneg (by omega) (by omega)
  have h4 : r / n ≤ r := Int.ediv_le_self _ (by omega)
  unfold tileN at hQ
  simp -implicitDefEqProofs [F_tile, w_body]
  refine ⟨by omega, by omega, ?_⟩
  split
  · rename_i h
    rw [if_pos h] at hQ
    exact ⟨by omega, hQ⟩
  · rename_i h
    rw [if_neg h] at hQ
    refine ⟨⟨?_, by omega⟩, hQ⟩
    have e := Int.mul_ediv_add_emod r n
    have h5 : r / n ≠ 0 := fun z => by
      rw [z] at h e
      simp at h e
      omega
    omega
/-- the first tiles' sizes together -/
def upto (l m f : Int) : Int := f * l + (if f < m then f else m)
theorem sizes_sum (l m : Int) (hm : 0 ≤ m) (f : Nat) : ((List.range f).map fun k : Nat => l + (if (k : Int) < m then 1 else 0)).sum = upto l m f := by
  induction f with
  | zero => simp [upto]; omega
  | succ f ih =>
    rw [List.range_succ, List.map_append, List.sum_append, ih]
    simp only [List.map_cons, List.map_nil, List.sum_cons, List.sum_nil, upto]
    have e : ((f + 1 : Nat) : Int) * l = f * l + l := by push_cast; rw [Int.add_mul, Int.one_mul]
    rw [e]
    push_cast
    split <;> split <;> omega
theorem tile_last {n r : Int} (hn : 0 < n) (hr : 0 ≤ r) : upto (r / n) (r % n) n = r := by
  have e := Int.mul_ediv_add_emod r n
  have h2 := Int.emod_lt_of_pos r hn
  unfold upto
  split <;> omega
theorem tile_is {n a r f : Int} (hn : 0 < n) (ha : 0 ≤ a) (hr : a < r) (hf : 0 ≤ f) (h1 : f = 0 ∨ upto (r / n) (r % n) f ≤ a) (h2 : a < upto (r / n) (r % n) (f + 1)) : f + 1 = tileN n a r := by
  have g1 := Int.emod_nonneg r (show n ≠ 0 by omega)
  have g3 : 0 ≤ r / n := Int.ediv_nonneg (by omega) (by omega)
  unfold tileN
  unfold upto at h1 h2
  generalize r / n = l at *
  generalize r % n = m at *
  have e0 : (f + 1) * l = f * l + l := by rw [Int.add_mul, Int.one_mul]
  have e1 : m * (l + 1) = m * l + m := by rw [Int.mul_add, Int.mul_one]
  have e2 : f * (l + 1) = f * l + f := by rw [Int.mul_add, Int.mul_one]
  have e3 : (f + 1) * (l + 1) = f * l + l + f + 1 := by rw [Int.mul_add, e0]; omega
  rw [e0] at h2
  rw [e1]
  by_cases h : a < m * l + m
  · rw [if_pos h]
    have hfm : f < m := by
      by_cases q : f < m
      · exact q
      · exfalso
        rw [if_neg q] at h1
        have : m * l ≤ f * l := Int.mul_le_mul_of_nonneg_right (by omega) g3
        rcases h1 with h1 | h1
        · subst h1; omega
        · omega
    rw [if_pos hfm] at h1
    have h3 : a < f * l + l + f + 1 := by split at h2 <;> omega
    have h4 : f * l + f ≤ a := by
      rcases h1 with h1 | h1
      · subst h1; omega
      · exact h1
    have : a / (l + 1) = f := by
      refine Int.le_antisymm ?_ ?_
      · have : a / (l + 1) < f + 1 := Int.ediv_lt_of_lt_mul (by omega) (by rw [e3]; exact h3)
        omega
      · exact (Int.le_ediv_iff_mul_le (by omega)).mpr (by rw [e2]; exact h4)
    omega
  · rw [if_neg h]
    have hfm : m ≤ f := by
      by_cases q : f + 1 < m
      · rw [if_pos q] at h2
        have : (f + 1) * l ≤ m * l := Int.mul_le_mul_of_nonneg_right (by omega) g3
        omega
      · by_cases q2 : f + 1 = m
        · rw [if_neg (by omega)] at h2
          have : (f + 1) * l = m * l := by rw [q2]
          omega
        · omega
    rw [if_neg (by omega)] at h1 h2
    have hl : l ≠ 0 := fun z => by subst z; omega
    have h4 : f * l + m ≤ a := by
      rcases h1 with h1 | h1
      · subst h1; omega
      · exact h1
    have e5 : (f - m) * l = f * l - m * l := Int.sub_mul ..
    have e6 : (f - m + 1) * l = f * l - m * l + l := by rw [Int.add_mul, e5, Int.one_mul]
    have : (a - (m * l + m)) / l = f - m := by
      refine Int.le_antisymm ?_ ?_
      · have : (a - (m * l + m)) / l < f - m + 1 := Int.ediv_lt_of_lt_mul (by omega) (by rw [e6]; omega)
        omega
      · exact (Int.le_ediv_iff_mul_le (by omega)).mpr (by rw [e5]; omega)
    omega
theorem tile_l {n a r : Int} (hn : 0 < n) (hn2 : n ≤ 1000) (ha : 0 ≤ a) (har : a < r) (hr : r ≤ 1000) {S : Sto} {Q : QE} (hQ : Q (.dat (.int (tileN n a r)), S)) : ok (F_law_tile [.dat (.int n), .dat (.int a), .dat (.int r)] S) Q := by
  have h1 := Int.emod_nonneg r (show n ≠ 0 by omega)
  have h2 := Int.emod_lt_of_pos r hn
  have h3 : 0 ≤ r / n := Int.ediv_nonneg (by omega) (by omega)
  have h4 : r / n ≤ r := Int.ediv_le_self _ (by omega)
  have hlast := tile_last (n := n) (r := r) hn (by omega)
  have hti := fun f => tile_is (n := n) (a := a) (r := r) (f := f) hn ha har
  obtain ⟨N, rfl⟩ : ∃ N : Nat, n = N := ⟨n.toNat, by omega⟩
  simp -implicitDefEqProofs [F_law_tile, w_body]
  refine ⟨by omega, lcR (fun k : Nat => .int (r / (N : Int) + (if (k : Int) < r % (N : Int) then 1 else 0))) (by omega) (fun k hk => ?_) ?_⟩
  · by_cases q : (k : Int) < r % (N : Int) <;> simp -implicitDefEqProofs [wipeE, q] <;> omega
  simp -implicitDefEqProofs
  have hsum : ∀ f : Nat, f < N → intsD (BV.cutD ((List.range N).map fun k : Nat => PyData.int (r / (N : Int) + (if (k : Int) < r % (N : Int) then 1 else 0))) none (some ((f : Int) + 1))) = some ((List.range (f + 1)).map fun k : Nat => r / (N : Int) + (if (k : Int) < r % (N : Int) then 1 else 0)) := by
    intro f hf
    have : ((f : Int) + 1) = ((f + 1 : Nat) : Int) := by push_cast; rfl
    rw [this, cut_to, ← List.map_take, List.take_range, Nat.min_eq_left (by omega), intsD_map' (fun k : Nat => r / (N : Int) + (if (k : Int) < r % (N : Int) then 1 else 0))]
  have hs2 := fun f : Nat => sizes_sum (r / (N : Int)) (r % (N : Int)) h1 f
  refine while_inv (fun m η S' => S' = S ∧ ∃ f : Nat, η = [some (.dat (.int N)), some (.dat (.int a)), some (.dat (.int r)),
        some (.dat (.list ((List.range N).map fun k : Nat => PyData.int (r / (N : Int) + (if (k : Int) < r % (N : Int) then 1 else 0))))), some (.dat (.int f)), none] ∧ f < N ∧ ((f : Int) = 0 ∨ upto (r / (N : Int)) (r % (N : Int)) f ≤ a) ∧ f + m = N) ?_ N wfuel _ S ⟨rfl, 0, rfl, by omega, .inl rfl, by omega⟩ (by unfold wfuel; omega)
  rintro m η _ ⟨rfl, f, rfl, hf, h0, hm⟩
  have hti' := hti f (by omega) h0
  simp -implicitDefEqProofs [hsum f hf, hs2]
  generalize hu : upto (r / (N : Int)) (r % (N : Int)) (f + 1) = u at *
  split
  · rename_i h
    have hlt : f + 1 < N := by
      by_cases q : f + 1 = N
      · exfalso
        have : ((f : Int) + 1) = (N : Int) := by omega
        rw [this, hlast] at hu
        omega
      · omega
    exact ⟨by omega, f + 1, by push_cast; rfl, hlt, .inr (by push_cast; rw [hu]; exact h), by omega⟩
  · rename_i h
    rw [hti' (by omega)]
    exact hQ
/-! the values -/
def vlD (c : Wd) (many : List Int) (l : List Int) : D := match c with
  | .percent => if 1 < l.getD 1 0 then .tuple [.int (l.getD 0 0 / (Int.gcd (l.getD 0 0) (l.getD 1 0 - 1) : Int)), .int ((l.getD 1 0 - 1) / (Int.gcd (l.getD 0 0) (l.getD 1 0 - 1) : Int))] else .tuple [.int 0, .int 1]
  | .share => .tuple [.int (l.getD 0 0 / (Int.gcd (l.getD 0 0) (l.getD 1 0) : Int)), .int (l.getD 1 0 / (Int.gcd (l.getD 0 0) (l.getD 1 0) : Int))]
  | .tile => .int (tileN (many.getD 0 0) (l.getD 0 0) (l.getD 1 0))
  | _ => .int (l.getD 0 0 + 1)
theorem cv_s {gs : List Int} {n p : Nat} (hG : Gr gs n) (hp : p < gs.length) (h : gs.length ≤ 100) (c : Wd) (many : List Int) (hm : c = .tile → ∃ t : Int, many = [t] ∧ 0 < t ∧ t ≤ 1000) (x y z : D) (hx : x = .tuple [.str (wd c), y] ∨ x = .list [.str (wd c), y])
    (hy : y = .tuple (many.map .int) ∨ y = .list (many.map .int)) (hz : z = .tuple ((lk gs p (gs.getD p 0) c).map .int) ∨ z = .list ((lk gs p (gs.getD p 0) c).map .int)) {S : Sto} {Q : QE} (hQ : Q (.dat (vlD c many (lk gs p (gs.getD p 0) c)), S)) : ok (F_call_value [.dat x, .dat z] S) Q := by
  have e2 : gs.getD p 0 = gs[p] := by rw [List.getD_eq_getElem?_getD, List.getElem?_eq_getElem hp]; rfl
  have hmm := List.getElem_mem hp
  have e3 := idx_so hG.so _ hmm
  have e4 := three gs[p] gs
  rw [e2] at hz hQ
  rcases hz with rfl | rfl <;> rcases hx with rfl | rfl <;> cases c <;> simp -implicitDefEqProofs [F_call_value, F_rank_value, w_body, wd, lk]
  all_goals first
    | (simpa [lk, vlD] using hQ; done)
    | (refine frac_s (by omega) (by omega) ?_
       simp -implicitDefEqProofs
       simpa [lk, vlD] using hQ)
    | (split
       · rename_i h1
         refine frac_s (by omega) (by omega) ?_
         simp -implicitDefEqProofs
         simpa [lk, vlD, h1] using hQ
       · rename_i h1
         simpa [lk, vlD, h1] using hQ)
    | (obtain ⟨t, rfl, ht1, ht2⟩ := hm rfl
       rcases hy with rfl | rfl <;> simp -implicitDefEqProofs <;> refine tile_p (by omega) (by omega) (by omega) (by omega) (by omega) ?_ <;> simp -implicitDefEqProofs <;> simpa [lk, vlD] using hQ)
theorem lv_s {gs : List Int} {n p : Nat} (hG : Gr gs n) (hp : p < gs.length) (h : gs.length ≤ 100) (c : Wd) (many : List Int) (hm : c = .tile → ∃ t : Int, many = [t] ∧ 0 < t ∧ t ≤ 1000)
    {S : Sto} {Q : QE} (hQ : Q (.dat (vlD c many (lk gs p (gs.getD p 0) c)), S)) : ok (F_law_value [.dat (.tuple [.str (wd c), .tuple (many.map .int)]), .dat (.tuple ((lk gs p (gs.getD p 0) c).map .int))] S) Q := by
  have e2 : gs.getD p 0 = gs[p] := by rw [List.getD_eq_getElem?_getD, List.getElem?_eq_getElem hp]; rfl
  have hmm := List.getElem_mem hp
  have e3 := idx_so hG.so _ hmm
  have e4 := three gs[p] gs
  rw [e2] at hQ ⊢
  have h0 : 0 < gs.length := by omega
  cases c <;> simp -implicitDefEqProofs [F_law_value, w_body, wd, lk, h0]
  all_goals first
    | (simpa [lk, vlD] using hQ; done)
    | (refine low_s (by omega) (by omega) ?_
       simp -implicitDefEqProofs
       simpa [lk, vlD] using hQ)
    | (split
       · rename_i h1
         refine low_s (by omega) (by omega) ?_
         simp -implicitDefEqProofs
         simpa [lk, vlD, h1] using hQ
       · rename_i h1
         simpa [lk, vlD, h1] using hQ)
    | (obtain ⟨t, rfl, ht1, ht2⟩ := hm rfl
       simp -implicitDefEqProofs
       refine tile_l (by omega) (by omega) (by omega) (by omega) (by omega) ?_
       simp -implicitDefEqProofs
       simpa [lk, vlD] using hQ)
end Pr
set_option Elab.async false
set_option linter.all false
set_option maxRecDepth 100000
set_option maxHeartbeats 1000000
namespace Pr
open PySem PySem.Spec PyProof.Rows L2 BV
def GrI (k : Int) (P : Sto) (i : Nat) (η : BV.Env) (S : Sto) : Prop := ∃ gs w b, η = [some (.hd P.length), some (.dat (.list (gs.map .int))), w, none, none, none, none, none, none, none, none, none] ∧ S = St P b [] ∧ BoxR (k + i) b ∧ Gr gs i ∧ gs.length ≤ 5 * i
def WdI (k : Int) (P : Sto) (x1 x2 x3 x4 x5 : Option W) (i : Nat) (η : BV.Env) (S : Sto) : Prop := ∃ w6 w7 w8 w9 w10 b, η = [some (.hd P.length), x1, x2, x3, x4, x5, w6, w7, w8, w9, w10, none] ∧ S = St P b [] ∧ BoxR (k + 1700 * i) b
def SiI (k : Int) (P : Sto) (x1 x2 x3 x4 x5 x6 x7 : Option W) (i : Nat) (η : BV.Env) (S : Sto) : Prop := ∃ w8 w9 w10 b, η = [some (.hd P.length), x1, x2, x3, x4, x5, x6, x7, w8, w9, w10, none] ∧ S = St P b [] ∧ BoxR (k + i) b
def MaI (k : Int) (P : Sto) (x1 x2 x3 x4 x5 x6 x7 x9 : Option W) (i : Nat) (η : BV.Env) (S : Sto) : Prop := ∃ w8 w10 b, η = [some (.hd P.length), x1, x2, x3, x4, x5, x6, x7, w8, x9, w10, none] ∧ S = St P b [] ∧ BoxR k b
theorem wd_at {i : Nat} {d : D} (h : [PyData.str "row", .str "rank", .str "dense", .str "percent", .str "share", .str "tile"][i]? = some d) : ∃ c, d = .str (wd c) := by
  have := List.mem_of_getElem? h
  simp only [List.mem_cons, List.not_mem_nil, or_false] at this
  rcases this with rfl | rfl | rfl | rfl | rfl | rfl
  · exact ⟨.row, rfl⟩
  · exact ⟨.rank, rfl⟩
  · exact ⟨.dense, rfl⟩
  · exact ⟨.percent, rfl⟩
  · exact ⟨.share, rfl⟩
  · exact ⟨.tile, rfl⟩
structure LineD (gs : List Int) (ds : List D) : Prop where
  len : ds.length = gs.length
  at_ : ∀ (i : Nat) (d : D) (g : Int), ds[i]? = some d → gs[i]? = some g → ∃ v, (v = .none ∨ ∃ j, v = .int j) ∧ d = .tuple [.int g, v]
theorem LineD.of {gs : List Int} (V : Int → D) (hV : ∀ g, V g = .none ∨ ∃ j, V g = .int j) : LineD gs (gs.map fun g => .tuple [.int g, V g]) := by
  refine ⟨by simp, fun i d g h1 h2 => ?_⟩
  rw [List.getElem?_map, h2] at h1
  exact ⟨V g, hV g, (Option.some.inj h1).symm⟩
theorem LineD.slim {gs : List Int} {ds : List D} (h : LineD gs ds) (hl : gs.length ≤ 40) (u : Str) : Pr.slim 40 3 (.tuple [.str u, .tuple ds]) := by
  refine ⟨by simp, ?_⟩
  intro d hd
  simp only [List.mem_cons, List.not_mem_nil, or_false] at hd
  rcases hd with rfl | rfl
  · simp [Pr.slim]
  · refine ⟨by rw [h.len]; exact hl, fun d hd => ?_⟩
    obtain ⟨i, hi, e⟩ := List.getElem_of_mem hd
    have hi2 : i < gs.length := by have := h.len; omega
    obtain ⟨v, hv, rfl⟩ := h.at_ i d gs[i] (by rw [List.getElem?_eq_getElem hi, e]) (List.getElem?_eq_getElem hi2)
    refine ⟨by simp, fun d hd => ?_⟩
    simp only [List.mem_cons, List.not_mem_nil, or_false] at hd
    rcases hd with rfl | rfl
    · simp [Pr.slim]
    · rcases hv with rfl | ⟨j, rfl⟩ <;> simp [Pr.slim]
theorem mx_flat {n : Nat} {d e : D} (h : Mx n d e) (hd : isFlat d = true) : e = d := by
  cases n <;> cases d <;> first | (simpa [Mx] using h) | (cases hd)
theorem LineD.looks {gs : List Int} {ds : List D} (hL : LineD gs ds) (hl : gs.length ≤ 40) {c : Wd} {l : D} {u : Str} (hm : Mx 3 (.tuple [.str u, .tuple ds]) l) {S : Sto} {Q : QE} (hQ : Q (.new ((List.range gs.length).map (lkD c gs)), S)) : ok (F_rank_looks [.dat (.str (wd c)), .dat l] S) Q := by
  obtain ⟨es, he, h1, h2⟩ := hm
  match es, h1 with
  | [x, y], _ =>
    have hy : Mx 2 (.tuple ds) y := h2 1 _ _ rfl rfl
    obtain ⟨fs, hf, h3, h4⟩ := hy
    refine looks_s (by omega) c fs (by rw [h3, hL.len]) (fun i d g e1 e2 => ?_) y l x he.symm hf.symm hQ
    have hi : i < ds.length := by
      have := (List.getElem?_eq_some_iff.mp e1).1
      omega
    obtain ⟨v, hv, e3⟩ := hL.at_ i ds[i] g (List.getElem?_eq_getElem hi) e2
    have h5 := h4 i _ _ (List.getElem?_eq_getElem hi) e1
    rw [e3] at h5
    obtain ⟨ts, ht, h6, h7⟩ := h5
    match ts, h6 with
    | [p, q], _ =>
      have := mx_flat (h7 0 (.int g) p rfl rfl) rfl
      subst this
      exact ⟨q, ht.symm⟩
theorem looks_fine {gs : List Int} (c : Wd) (h : gs.length ≤ 40) : fine 2 (.list ((List.range gs.length).map (lkD c gs))) = true := by
  simp only [fine, Bool.and_eq_true, decide_eq_true_eq, List.all_eq_true, List.length_map, List.length_range]
  refine ⟨by omega, fun d hd => ?_⟩
  obtain ⟨i, _, rfl⟩ := List.mem_map.mp hd
  cases c <;> simp [lkD, lk, fine]
theorem fine_up : ∀ {n m : Nat} {d : D}, n ≤ m → fine n d = true → fine m d = true
  | _, _, .none, _, _ => by simp [fine]
  | _, _, .bool _, _, _ => by simp [fine]
  | _, _, .int _, _, _ => by simp [fine]
  | _, _, .str x, _, h => by simpa [fine] using h
  | 0, _, .list ds, _, h => by simp [fine] at h
  | 0, _, .tuple ds, _, h => by simp [fine] at h
  | n + 1, 0, .list ds, hm, h => by omega
  | n + 1, 0, .tuple ds, hm, h => by omega
  | n + 1, m + 1, .list ds, hm, h => by
    simp only [fine, Bool.and_eq_true, List.all_eq_true] at h ⊢
    exact ⟨h.1, fun d hd => fine_up (by omega) (h.2 d hd)⟩
  | n + 1, m + 1, .tuple ds, hm, h => by
    simp only [fine, Bool.and_eq_true, List.all_eq_true] at h ⊢
    exact ⟨h.1, fun d hd => fine_up (by omega) (h.2 d hd)⟩
  | n, _, .dict _, _, h => by cases n <;> simp [fine] at h
theorem looks_fine' {gs : List Int} (c : Wd) (h : gs.length ≤ 40) : fine 4 (.list ((List.range gs.length).map (lkD c gs))) = true := fine_up (by omega) (looks_fine c h)
theorem looks_fine5 {gs : List Int} (c : Wd) (h : gs.length ≤ 40) : fine 5 (.list ((List.range gs.length).map (lkD c gs))) = true := fine_up (by omega) (looks_fine c h)
theorem vl_fine (c : Wd) (many l : List Int) : fine 1 (vlD c many l) = true := by
  cases c <;> simp only [vlD]
  case percent => split <;> simp [fine]
  all_goals simp [fine]
def refl_mx : ∀ (n : Nat) (d : D), Mx n d d
  | 0, _ => rfl
  | n + 1, .none => rfl
  | n + 1, .bool _ => rfl
  | n + 1, .int _ => rfl
  | n + 1, .str _ => rfl
  | n + 1, .dict _ => rfl
  | n + 1, .list ds => ⟨ds, .inl rfl, rfl, fun i d e h1 h2 => by rw [h1] at h2; cases h2; exact refl_mx n d⟩
  | n + 1, .tuple ds => ⟨ds, .inr rfl, rfl, fun i d e h1 h2 => by rw [h1] at h2; cases h2; exact refl_mx n d⟩
theorem flat_box {k : Int} {b : List D} (h : BoxR k b) : b.all isFlat = true := by
  obtain ⟨x, y, z, rfl, _⟩ := h; rfl
theorem many_t {c : Wd} {a b : Int} (h1 : 0 < a) (h2 : a ≤ 1000) (h3 : 0 < b) (h4 : b ≤ 1000) : ∀ d ∈ [PyData.tuple [.int 1], .tuple [.int 2], .tuple [.int 50], .tuple [.int a], .tuple [.int b]], ∃ many : List Int, d = .tuple (many.map .int) ∧ (c = .tile → ∃ t : Int, many = [t] ∧ 0 < t ∧ t ≤ 1000) := by
  have go : ∀ t : Int, 0 < t → t ≤ 1000 → ∃ many : List Int, PyData.tuple [.int t] = .tuple (many.map .int) ∧ (c = .tile → ∃ t : Int, many = [t] ∧ 0 < t ∧ t ≤ 1000) := fun t g1 g2 => ⟨[t], rfl, fun _ => ⟨t, rfl, g1, g2⟩⟩
  intro d hd
  simp only [List.mem_cons, List.not_mem_nil, or_false] at hd
  rcases hd with rfl | rfl | rfl | rfl | rfl
  · exact go 1 (by omega) (by omega)
  · exact go 2 (by omega) (by omega)
  · exact go 50 (by omega) (by omega)
  · exact go a h1 h2
  · exact go b h3 h4
theorem many_n {c : Wd} (h : c ≠ .tile) : ∀ d ∈ [PyData.tuple []], ∃ many : List Int, d = .tuple (many.map .int) ∧ (c = .tile → ∃ t : Int, many = [t] ∧ 0 < t ∧ t ≤ 1000) := by
  intro d hd
  rw [List.mem_singleton.mp hd]
  exact ⟨[], rfl, fun e => absurd e h⟩
theorem two_fine (c : Wd) (many l : List Int) : fine 5 (.list [vlD c many l, vlD c many l]) = true := by
  have h := fine_up (show 1 ≤ 4 by omega) (vl_fine c many l)
  simp [fine, h]
theorem right_s {k : Int} {b : List D} {P : Sto} {Q : QE} (hb : BoxR k b) (hk : k ≤ 100000) (hP : FlatS P) (hQ : ∀ b', BoxR (k + 11000) b' → Q (.dat (.bool true), St P b' [])) : ok (F_law_right [.hd P.length] (St P b [])) Q := by
  simp -implicitDefEqProofs [F_law_right, w_body]
  refine take_s hb (by omega) (by omega) (by omega) fun r b1 hr0 hr8 hb1 => ?_
  simp -implicitDefEqProofs
  refine ⟨by omega, for_n (GrI (k + 1) P) ⟨[], none, b1, rfl, rfl, by simpa using hb1, Gr.nil, by simp⟩ ?_ ?_⟩
  · rintro i η S d hd ⟨gs, w, b2, rfl, rfl, hb2, hG, hl⟩
    obtain ⟨hi, rfl⟩ := intsR_get hd
    simp -implicitDefEqProofs
    refine take_s hb2 (by omega) (by omega) (by omega) fun r2 b3 h1 h2 hb3 => ?_
    simp -implicitDefEqProofs
    rw [← List.map_replicate, ← List.map_append]
    exact ⟨by omega, by omega, gs ++ List.replicate (1 + r2).toNat (i : Int), _, b3, rfl, rfl, hb3.mono (by omega), hG.step (by omega), by simp; omega⟩
  rintro η S ⟨gs, w, b2, rfl, rfl, hb2, hG, hl⟩
  rw [intsR_len] at hb2 hG hl
  have hl : gs.length ≤ 40 := by omega
  simp -implicitDefEqProofs
  refine take_s hb2 (by omega) (by omega) (by omega) fun r2 b3 h1 h2 hb3 => ?_
  simp -implicitDefEqProofs
  have hb4 := hb3.mono (show k + 1 + ((1 + r).toNat : Int) + 1 ≤ k + 99 by omega)
  clear hb3 hb2 hb1 hb
  split <;> rename_i hr
  · subst hr
    refine of_s _ hb4 (by omega) (by simp) (by simp) fun d b4 hd hb5 => ?_
    have hb5 := hb5.mono (show k + 99 + 1 ≤ k + 100 by omega)
    simp only [List.mem_cons, List.not_mem_nil, or_false] at hd
    rcases hd with rfl | rfl
    · simp -implicitDefEqProofs
      refine lcN (fun g => .tuple [.int g, .int (g * (1 - 2 * 0))]) (by omega) (fun i hi => ?_) ?_
      · simp -implicitDefEqProofs [wipeE]
      have hL := LineD.of (gs := gs) (fun g => .int (g * (1 - 2 * 0))) (fun g => .inr ⟨_, rfl⟩)
      generalize gs.map (fun g => PyData.tuple [.int g, .int (g * (1 - 2 * 0))]) = ds at *
      simp -implicitDefEqProofs
      refine for_n (WdI (k + 100) P _ _ _ _ _) ⟨_, _, _, _, _, _, rfl, rfl, by simpa using hb5⟩ ?_ ?_
      · rintro i η S d hd ⟨w6, w7, w8, w9, w10, b6, rfl, rfl, hb6⟩
        have hi : i < 6 := (List.getElem?_eq_some_iff.mp hd).1
        obtain ⟨c, rfl⟩ := wd_at hd
        simp -implicitDefEqProofs
        refine ⟨by omega, lcR (lkD c gs) (by omega) (fun p hp => ?_) ?_⟩
        · simp -implicitDefEqProofs [wipeE]
          exact due_s hG hp (by omega) c (by simp -implicitDefEqProofs)
        simp -implicitDefEqProofs
        refine hL.looks hl (refl_mx _ _) ?_
        simp -implicitDefEqProofs
        refine mixed_s 40 (by omega) 3 _ (hL.slim hl _) hb6 (by simp [wide]; omega) fun l b7 hl7 hb7 => ?_
        simp -implicitDefEqProofs
        refine hL.looks hl hl7 ?_
        simp -implicitDefEqProofs
        refine same_r 5 (.list [_, _]) (by omega) ?_ _ _ ?_
        · simp only [fine, Bool.and_eq_true, decide_eq_true_eq, List.all_eq_true]
          refine ⟨by simp, fun d hd => ?_⟩
          simp only [List.mem_cons, List.not_mem_nil, or_false, or_self] at hd
          rw [hd]
          exact looks_fine' c hl
        simp -implicitDefEqProofs
        refine ⟨⟨flatS_st.mpr ⟨hP, flat_box hb7, flatS_nil⟩, by omega⟩, ?_⟩
        refine hL.looks hl (refl_mx _ _) ?_
        simp -implicitDefEqProofs
        refine same_r 5 (.list _) (by omega) (looks_fine5 c hl) _ _ ?_
        simp -implicitDefEqProofs
        refine for_n (SiI (k + 1742 + 1700 * i) P _ _ _ _ _ _ _) ⟨_, _, _, _, rfl, rfl, by simpa using hb7.mono (by simp [wide]; omega)⟩ ?_ ?_
        · rintro j η S d hd ⟨w8, w9, w10, b8, rfl, rfl, hb8⟩
          rw [List.getElem?_map] at hd
          have hj : j < gs.length := by
            by_cases q : j < gs.length
            · exact q
            · rw [List.getElem?_eq_none (by simp; omega)] at hd; cases hd
          rw [List.getElem?_range hj] at hd
          cases hd
          simp -implicitDefEqProofs
          split <;> rename_i hc
          · refine take_s hb8 (by omega) (by omega) (by omega) fun r4 b9 g1 g2 hb9 => ?_
            simp -implicitDefEqProofs
            refine for_n (MaI (k + 1742 + 1700 * i + j + 1) P _ _ _ _ _ _ _ _) ⟨_, _, _, rfl, rfl, hb9⟩ ?_ ?_
            · rintro m η S d hd ⟨w8, w10, b8, rfl, rfl, hb8⟩
              have hd : ∃ many : List Int, d = .tuple (many.map .int) ∧ (c = .tile → ∃ t : Int, many = [t] ∧ 0 < t ∧ t ≤ 1000) := many_t (by omega) (by omega) (by omega) (by omega) d (List.mem_of_getElem? hd)
              obtain ⟨many, rfl, hm⟩ := hd
              simp -implicitDefEqProofs
              refine cv_s hG hj (by omega) c many hm _ _ _ (.inl rfl) (.inl rfl) (.inl rfl) ?_
              simp -implicitDefEqProofs [lkD]
              refine cv_s hG hj (by omega) c many hm _ _ _ (.inr rfl) (.inr rfl) (.inr rfl) ?_
              simp -implicitDefEqProofs
              refine lv_s hG hj (by omega) c many hm ?_
              simp -implicitDefEqProofs
              refine same_r 5 (.list [_, _]) (by omega) (two_fine _ _ _) _ _ ?_
              simp -implicitDefEqProofs
              exact ⟨_, _, _, rfl, rfl, hb8⟩
            · rintro η S ⟨w8, w10, b8, rfl, rfl, hb8⟩
              simp -implicitDefEqProofs
              exact ⟨_, _, _, _, rfl, rfl, hb8.mono (by push_cast; omega)⟩
          · refine for_n (MaI (k + 1742 + 1700 * i + j + 1) P _ _ _ _ _ _ _ _) ⟨_, _, _, rfl, rfl, hb8.mono (by omega)⟩ ?_ ?_
            · rintro m η S d hd ⟨w8, w10, b8, rfl, rfl, hb8⟩
              have hd : ∃ many : List Int, d = .tuple (many.map .int) ∧ (c = .tile → ∃ t : Int, many = [t] ∧ 0 < t ∧ t ≤ 1000) := many_n (fun e => hc (by rw [e]; rfl)) d (List.mem_of_getElem? hd)
              obtain ⟨many, rfl, hm⟩ := hd
              simp -implicitDefEqProofs
              refine cv_s hG hj (by omega) c many hm _ _ _ (.inl rfl) (.inl rfl) (.inl rfl) ?_
              simp -implicitDefEqProofs [lkD]
              refine cv_s hG hj (by omega) c many hm _ _ _ (.inr rfl) (.inr rfl) (.inr rfl) ?_
              simp -implicitDefEqProofs
              refine lv_s hG hj (by omega) c many hm ?_
              simp -implicitDefEqProofs
              refine same_r 5 (.list [_, _]) (by omega) (two_fine _ _ _) _ _ ?_
              simp -implicitDefEqProofs
              exact ⟨_, _, _, rfl, rfl, hb8⟩
            · rintro η S ⟨w8, w10, b8, rfl, rfl, hb8⟩
              simp -implicitDefEqProofs
              exact ⟨_, _, _, _, rfl, rfl, hb8.mono (by push_cast; omega)⟩
        · rintro η S ⟨w8, w9, w10, b8, rfl, rfl, hb8⟩
          simp -implicitDefEqProofs
          exact ⟨_, _, _, _, _, _, rfl, rfl, hb8.mono (by simp; omega)⟩
      · rintro η S ⟨w6, w7, w8, w9, w10, b4, rfl, rfl, hb4⟩
        simp -implicitDefEqProofs
        exact hQ _ (hb4.mono (by simp; omega))
    · simp -implicitDefEqProofs
      refine lcN (fun g => .tuple [.int g, .int (g * (1 - 2 * 1))]) (by omega) (fun i hi => ?_) ?_
      · simp -implicitDefEqProofs [wipeE]
      have hL := LineD.of (gs := gs) (fun g => .int (g * (1 - 2 * 1))) (fun g => .inr ⟨_, rfl⟩)
      generalize gs.map (fun g => PyData.tuple [.int g, .int (g * (1 - 2 * 1))]) = ds at *
      simp -implicitDefEqProofs
      refine for_n (WdI (k + 100) P _ _ _ _ _) ⟨_, _, _, _, _, _, rfl, rfl, by simpa using hb5⟩ ?_ ?_
      · rintro i η S d hd ⟨w6, w7, w8, w9, w10, b6, rfl, rfl, hb6⟩
        have hi : i < 6 := (List.getElem?_eq_some_iff.mp hd).1
        obtain ⟨c, rfl⟩ := wd_at hd
        simp -implicitDefEqProofs
        refine ⟨by omega, lcR (lkD c gs) (by omega) (fun p hp => ?_) ?_⟩
        · simp -implicitDefEqProofs [wipeE]
          exact due_s hG hp (by omega) c (by simp -implicitDefEqProofs)
        simp -implicitDefEqProofs
        refine hL.looks hl (refl_mx _ _) ?_
        simp -implicitDefEqProofs
        refine mixed_s 40 (by omega) 3 _ (hL.slim hl _) hb6 (by simp [wide]; omega) fun l b7 hl7 hb7 => ?_
        simp -implicitDefEqProofs
        refine hL.looks hl hl7 ?_
        simp -implicitDefEqProofs
        refine same_r 5 (.list [_, _]) (by omega) ?_ _ _ ?_
        · simp only [fine, Bool.and_eq_true, decide_eq_true_eq, List.all_eq_true]
          refine ⟨by simp, fun d hd => ?_⟩
          simp only [List.mem_cons, List.not_mem_nil, or_false, or_self] at hd
          rw [hd]
          exact looks_fine' c hl
        simp -implicitDefEqProofs
        refine ⟨⟨flatS_st.mpr ⟨hP, flat_box hb7, flatS_nil⟩, by omega⟩, ?_⟩
        refine hL.looks hl (refl_mx _ _) ?_
        simp -implicitDefEqProofs
        refine same_r 5 (.list _) (by omega) (looks_fine5 c hl) _ _ ?_
        simp -implicitDefEqProofs
        refine for_n (SiI (k + 1742 + 1700 * i) P _ _ _ _ _ _ _) ⟨_, _, _, _, rfl, rfl, by simpa using hb7.mono (by simp [wide]; omega)⟩ ?_ ?_
        · rintro j η S d hd ⟨w8, w9, w10, b8, rfl, rfl, hb8⟩
          rw [List.getElem?_map] at hd
          have hj : j < gs.length := by
            by_cases q : j < gs.length
            · exact q
            · rw [List.getElem?_eq_none (by simp; omega)] at hd; cases hd
          rw [List.getElem?_range hj] at hd
          cases hd
          simp -implicitDefEqProofs
          split <;> rename_i hc
          · refine take_s hb8 (by omega) (by omega) (by omega) fun r4 b9 g1 g2 hb9 => ?_
            simp -implicitDefEqProofs
            refine for_n (MaI (k + 1742 + 1700 * i + j + 1) P _ _ _ _ _ _ _ _) ⟨_, _, _, rfl, rfl, hb9⟩ ?_ ?_
            · rintro m η S d hd ⟨w8, w10, b8, rfl, rfl, hb8⟩
              have hd : ∃ many : List Int, d = .tuple (many.map .int) ∧ (c = .tile → ∃ t : Int, many = [t] ∧ 0 < t ∧ t ≤ 1000) := many_t (by omega) (by omega) (by omega) (by omega) d (List.mem_of_getElem? hd)
              obtain ⟨many, rfl, hm⟩ := hd
              simp -implicitDefEqProofs
              refine cv_s hG hj (by omega) c many hm _ _ _ (.inl rfl) (.inl rfl) (.inl rfl) ?_
              simp -implicitDefEqProofs [lkD]
              refine cv_s hG hj (by omega) c many hm _ _ _ (.inr rfl) (.inr rfl) (.inr rfl) ?_
              simp -implicitDefEqProofs
              refine lv_s hG hj (by omega) c many hm ?_
              simp -implicitDefEqProofs
              refine same_r 5 (.list [_, _]) (by omega) (two_fine _ _ _) _ _ ?_
              simp -implicitDefEqProofs
              exact ⟨_, _, _, rfl, rfl, hb8⟩
            · rintro η S ⟨w8, w10, b8, rfl, rfl, hb8⟩
              simp -implicitDefEqProofs
              exact ⟨_, _, _, _, rfl, rfl, hb8.mono (by push_cast; omega)⟩
          · refine for_n (MaI (k + 1742 + 1700 * i + j + 1) P _ _ _ _ _ _ _ _) ⟨_, _, _, rfl, rfl, hb8.mono (by omega)⟩ ?_ ?_
            · rintro m η S d hd ⟨w8, w10, b8, rfl, rfl, hb8⟩
              have hd : ∃ many : List Int, d = .tuple (many.map .int) ∧ (c = .tile → ∃ t : Int, many = [t] ∧ 0 < t ∧ t ≤ 1000) := many_n (fun e => hc (by rw [e]; rfl)) d (List.mem_of_getElem? hd)
              obtain ⟨many, rfl, hm⟩ := hd
              simp -implicitDefEqProofs
              refine cv_s hG hj (by omega) c many hm _ _ _ (.inl rfl) (.inl rfl) (.inl rfl) ?_
              simp -implicitDefEqProofs [lkD]
              refine cv_s hG hj (by omega) c many hm _ _ _ (.inr rfl) (.inr rfl) (.inr rfl) ?_
              simp -implicitDefEqProofs
              refine lv_s hG hj (by omega) c many hm ?_
              simp -implicitDefEqProofs
              refine same_r 5 (.list [_, _]) (by omega) (two_fine _ _ _) _ _ ?_
              simp -implicitDefEqProofs
              exact ⟨_, _, _, rfl, rfl, hb8⟩
            · rintro η S ⟨w8, w10, b8, rfl, rfl, hb8⟩
              simp -implicitDefEqProofs
              exact ⟨_, _, _, _, rfl, rfl, hb8.mono (by push_cast; omega)⟩
        · rintro η S ⟨w8, w9, w10, b8, rfl, rfl, hb8⟩
          simp -implicitDefEqProofs
          exact ⟨_, _, _, _, _, _, rfl, rfl, hb8.mono (by simp; omega)⟩
      · rintro η S ⟨w6, w7, w8, w9, w10, b4, rfl, rfl, hb4⟩
        simp -implicitDefEqProofs
        exact hQ _ (hb4.mono (by simp; omega))
  · have hb5 := hb4.mono (show k + 99 ≤ k + 100 by omega)
    refine lcN (fun g => .tuple [.int g, .none]) (by omega) (fun i hi => ?_) ?_
    · simp -implicitDefEqProofs [wipeE, hr]
    have hL := LineD.of (gs := gs) (fun g => .none) (fun g => .inl rfl)
    generalize gs.map (fun g => PyData.tuple [.int g, .none]) = ds at *
    simp -implicitDefEqProofs
    refine for_n (WdI (k + 100) P _ _ _ _ _) ⟨_, _, _, _, _, _, rfl, rfl, by simpa using hb5⟩ ?_ ?_
    · rintro i η S d hd ⟨w6, w7, w8, w9, w10, b6, rfl, rfl, hb6⟩
      have hi : i < 6 := (List.getElem?_eq_some_iff.mp hd).1
      obtain ⟨c, rfl⟩ := wd_at hd
      simp -implicitDefEqProofs
      refine ⟨by omega, lcR (lkD c gs) (by omega) (fun p hp => ?_) ?_⟩
      · simp -implicitDefEqProofs [wipeE]
        exact due_s hG hp (by omega) c (by simp -implicitDefEqProofs)
      simp -implicitDefEqProofs
      refine hL.looks hl (refl_mx _ _) ?_
      simp -implicitDefEqProofs
      refine mixed_s 40 (by omega) 3 _ (hL.slim hl _) hb6 (by simp [wide]; omega) fun l b7 hl7 hb7 => ?_
      simp -implicitDefEqProofs
      refine hL.looks hl hl7 ?_
      simp -implicitDefEqProofs
      refine same_r 5 (.list [_, _]) (by omega) ?_ _ _ ?_
      · simp only [fine, Bool.and_eq_true, decide_eq_true_eq, List.all_eq_true]
        refine ⟨by simp, fun d hd => ?_⟩
        simp only [List.mem_cons, List.not_mem_nil, or_false, or_self] at hd
        rw [hd]
        exact looks_fine' c hl
      simp -implicitDefEqProofs
      refine ⟨⟨flatS_st.mpr ⟨hP, flat_box hb7, flatS_nil⟩, by omega⟩, ?_⟩
      refine hL.looks hl (refl_mx _ _) ?_
      simp -implicitDefEqProofs
      refine same_r 5 (.list _) (by omega) (looks_fine5 c hl) _ _ ?_
      simp -implicitDefEqProofs
      refine for_n (SiI (k + 1742 + 1700 * i) P _ _ _ _ _ _ _) ⟨_, _, _, _, rfl, rfl, by simpa using hb7.mono (by simp [wide]; omega)⟩ ?_ ?_
      · rintro j η S d hd ⟨w8, w9, w10, b8, rfl, rfl, hb8⟩
        rw [List.getElem?_map] at hd
        have hj : j < gs.length := by
          by_cases q : j < gs.length
          · exact q
          · rw [List.getElem?_eq_none (by simp; omega)] at hd; cases hd
        rw [List.getElem?_range hj] at hd
        cases hd
        simp -implicitDefEqProofs
        split <;> rename_i hc
        · refine take_s hb8 (by omega) (by omega) (by omega) fun r4 b9 g1 g2 hb9 => ?_
          simp -implicitDefEqProofs
          refine for_n (MaI (k + 1742 + 1700 * i + j + 1) P _ _ _ _ _ _ _ _) ⟨_, _, _, rfl, rfl, hb9⟩ ?_ ?_
          · rintro m η S d hd ⟨w8, w10, b8, rfl, rfl, hb8⟩
            have hd : ∃ many : List Int, d = .tuple (many.map .int) ∧ (c = .tile → ∃ t : Int, many = [t] ∧ 0 < t ∧ t ≤ 1000) := many_t (by omega) (by omega) (by omega) (by omega) d (List.mem_of_getElem? hd)
            obtain ⟨many, rfl, hm⟩ := hd
            simp -implicitDefEqProofs
            refine cv_s hG hj (by omega) c many hm _ _ _ (.inl rfl) (.inl rfl) (.inl rfl) ?_
            simp -implicitDefEqProofs [lkD]
            refine cv_s hG hj (by omega) c many hm _ _ _ (.inr rfl) (.inr rfl) (.inr rfl) ?_
            simp -implicitDefEqProofs
            refine lv_s hG hj (by omega) c many hm ?_
            simp -implicitDefEqProofs
            refine same_r 5 (.list [_, _]) (by omega) (two_fine _ _ _) _ _ ?_
            simp -implicitDefEqProofs
            exact ⟨_, _, _, rfl, rfl, hb8⟩
          · rintro η S ⟨w8, w10, b8, rfl, rfl, hb8⟩
            simp -implicitDefEqProofs
            exact ⟨_, _, _, _, rfl, rfl, hb8.mono (by push_cast; omega)⟩
        · refine for_n (MaI (k + 1742 + 1700 * i + j + 1) P _ _ _ _ _ _ _ _) ⟨_, _, _, rfl, rfl, hb8.mono (by omega)⟩ ?_ ?_
          · rintro m η S d hd ⟨w8, w10, b8, rfl, rfl, hb8⟩
            have hd : ∃ many : List Int, d = .tuple (many.map .int) ∧ (c = .tile → ∃ t : Int, many = [t] ∧ 0 < t ∧ t ≤ 1000) := many_n (fun e => hc (by rw [e]; rfl)) d (List.mem_of_getElem? hd)
            obtain ⟨many, rfl, hm⟩ := hd
            simp -implicitDefEqProofs
            refine cv_s hG hj (by omega) c many hm _ _ _ (.inl rfl) (.inl rfl) (.inl rfl) ?_
            simp -implicitDefEqProofs [lkD]
            refine cv_s hG hj (by omega) c many hm _ _ _ (.inr rfl) (.inr rfl) (.inr rfl) ?_
            simp -implicitDefEqProofs
            refine lv_s hG hj (by omega) c many hm ?_
            simp -implicitDefEqProofs
            refine same_r 5 (.list [_, _]) (by omega) (two_fine _ _ _) _ _ ?_
            simp -implicitDefEqProofs
            exact ⟨_, _, _, rfl, rfl, hb8⟩
          · rintro η S ⟨w8, w10, b8, rfl, rfl, hb8⟩
            simp -implicitDefEqProofs
            exact ⟨_, _, _, _, rfl, rfl, hb8.mono (by push_cast; omega)⟩
      · rintro η S ⟨w8, w9, w10, b8, rfl, rfl, hb8⟩
        simp -implicitDefEqProofs
        exact ⟨_, _, _, _, _, _, rfl, rfl, hb8.mono (by simp; omega)⟩
    · rintro η S ⟨w6, w7, w8, w9, w10, b4, rfl, rfl, hb4⟩
      simp -implicitDefEqProofs
      exact hQ _ (hb4.mono (by simp; omega))
end Pr
set_option Elab.async false
set_option linter.all false
set_option maxRecDepth 100000
set_option maxHeartbeats 1000000
namespace Pr
open PySem PySem.Spec PyProof.Rows L2 BV
theorem box_s {S : Sto} {Q : QE} (ns : List Int) (k : Nat) (hk : k ≤ 1000) (hQ : ∀ b, BoxR 0 b → Q (.new b, S)) : ok (F_law_box [.frz (ns.map .int), .dat (.int k)] S) Q := by
  by_cases h : k < ns.length
  · have e : (ns.map PyData.int)[k]? = some (.int ns[k]) := by rw [List.getElem?_map, List.getElem?_eq_getElem h]; rfl
    have ha : 0 ≤ (if ns[k] < 0 then -ns[k] else ns[k]) := by split <;> omega
    simp -implicitDefEqProofs [F_law_box, w_body, h, at_nat, e]
    generalize (if ns[k] < 0 then -ns[k] else ns[k]) = a at *
    by_cases hb : 1000000000000000000 ≤ a
    · simp -implicitDefEqProofs [hb]
      exact hQ _ ⟨_, _, _, rfl, ha, by omega, by omega⟩
    · simp -implicitDefEqProofs [hb]
      exact hQ _ ⟨_, _, _, rfl, by omega, by omega, by omega⟩
  · simp -implicitDefEqProofs [F_law_box, w_body, h]
    exact hQ _ ⟨_, _, _, rfl, by omega, by omega, by omega⟩
def LawI (ns : List Int) (_ : Nat) (η : BV.Env) (S : Sto) : Prop := ∃ w1 w2 w3, η = [some (.frz (ns.map .int)), w1, w2, w3] ∧ FlatS S
def AllI (P : Sto) (i : Nat) (S : Sto) (acc : List D) : Prop := ∃ b, S = St P b [] ∧ BoxR (11000 * i) b ∧ acc = (List.range i).map fun _ => .bool true
theorem main (ns : List Int) (hn : ns.length ≤ 63) : ∃ S', F_law [.frz (ns.map .int)] [] = some (.dat (.bool true), S') := by
  have key : ok (F_law [.frz (ns.map .int)] []) fun p => p.1 = .dat (.bool true) := by
    simp -implicitDefEqProofs [F_law, w_body]
    refine ⟨by split <;> omega, ?_⟩
    refine for_n (LawI ns) ⟨_, _, _, rfl, flatS_nil⟩ ?_ ?_
    · rintro i η S d hd ⟨w1, w2, w3, rfl, hS⟩
      obtain ⟨hi, rfl⟩ := intsR_get hd
      have hi : i < 5 := by
        have : (1 + if (ns.length : Int) < 3 then (ns.length : Int) else 3).toNat ≤ 4 := by split <;> omega
        omega
      simp -implicitDefEqProofs
      refine box_s ns i (by omega) fun b hb => ?_
      simp -implicitDefEqProofs
      rw [show S ++ [b] = St S b [] by rw [st_def]]
      refine lc_inv (AllI S) ⟨b, rfl, hb.mono (by omega), rfl⟩ (by simp) ?_ ?_ ?_
      · rintro j S acc ⟨b', rfl, hb', rfl⟩
        simp
      · rintro j S' acc d hd ⟨b', rfl, hb', rfl⟩
        obtain ⟨hj, rfl⟩ := intsR_get hd
        simp -implicitDefEqProofs [wipeE]
        refine right_s hb' (by omega) hS fun b2 hb2 => ?_
        simp -implicitDefEqProofs
        exact ⟨b2, rfl, hb2.mono (by omega), by rw [List.range_succ, List.map_append]; rfl⟩
      · rintro S' acc ⟨b', rfl, hb', rfl⟩
        simp -implicitDefEqProofs [bools_true, all_yes]
        exact ⟨_, _, _, rfl, flatS_st.mpr ⟨hS, flat_box hb', flatS_nil⟩⟩
    · rintro η S ⟨w1, w2, w3, rfl, hS⟩
      simp -implicitDefEqProofs
  obtain ⟨p, e, h⟩ := key
  exact ⟨p.2, by rw [e, ← h]⟩
end Pr
open PySem PySem.W PyProof.Rows
set_option maxHeartbeats 0 in
theorem PySem.Challenge.cw_overrows_k12_ranks_of_a_line_holds : PySem.Challenge.rw_overrows_k12_ranks_of_a_line.Holds := by
  w_on; o_law; k_head; (case hw => w_witness2)
  k_fill
  refine BV.walk_ofG (l := PySem.Challenge.rw_overrows_k12_ranks_of_a_line) (n := 63) (k := 9) (x := "_law_script") (CX := fun _ => L2.CX0) (sp := fun w => BV.spF _ 1 Pr.F_law) rfl (by decide) rfl ⟨rfl, by decide, by decide⟩ (fun w h Y => PySem.W.kIn_of Y) ?F (fun _ _ a ns hl hO hS => BV.law_sp hO hS (Pr.main ns hl)) (fun _ _ _ _ _ h => h)
  case F =>
    intro w mg fa h KX G hmg
    refine' Pr.all_mk KX G hmg ?a_law_box ?l_law_box ?c_law_box ?k_law_box ?a_law_take ?l_law_take ?c_law_take ?k_law_take ?a_law_of ?l_law_of ?c_law_of ?k_law_of ?a_law_due ?l_law_due ?c_law_due ?k_law_due ?a_rank_look ?l_rank_look ?c_rank_look ?k_rank_look ?a_rank_looks ?l_rank_looks ?c_rank_looks ?k_rank_looks ?a_law_same ?l_law_same ?c_law_same ?k_law_same ?a_law_mixed ?l_law_mixed ?c_law_mixed ?k_law_mixed ?a_fraction ?l_fraction ?c_fraction ?k_fraction ?a_sum_value ?l_sum_value ?c_sum_value ?k_sum_value ?a_tile ?l_tile ?c_tile ?k_tile ?a_rank_value ?l_rank_value ?c_rank_value ?k_rank_value ?a_offset_value ?l_offset_value ?c_offset_value ?k_offset_value ?a_counted ?l_counted ?c_counted ?k_counted ?a_call_value ?l_call_value ?c_call_value ?k_call_value ?a_law_tile ?l_law_tile ?c_law_tile ?k_law_tile ?a_law_lowest ?l_law_lowest ?c_law_lowest ?k_law_lowest ?a_law_value ?l_law_value ?c_law_value ?k_law_value ?a_law_right ?l_law_right ?c_law_right ?k_law_right ?a_law ?l_law ?c_law ?k_law ?z_abs ?z_all ?z_bool ?z_divmod ?z_enumerate ?z_gcd ?z_int ?z_isinstance ?z_len ?z_list ?z_max ?z_min ?z_range ?z_set ?z_str ?z_sum ?z_tuple ?z_zip ?aa_OFFSETS ?kd_OFFSETS ?oa_OFFSETS ?ob_OFFSETS ?ts_OFFSETS ?ks_OFFSETS ?aa_RANKS ?kd_RANKS ?oa_RANKS ?ob_RANKS ?ts_RANKS ?ks_RANKS Pr.main
    (case a_law_box => k_is)
    (case l_law_box => k_is)
    (case c_law_box => k_is)
    (case k_law_box => k_is)
    (case a_law_take => k_is)
    (case l_law_take => k_is)
    (case c_law_take => k_is)
    (case k_law_take => k_is)
    (case a_law_of => k_is)
    (case l_law_of => k_is)
    (case c_law_of => k_is)
    (case k_law_of => k_is)
    (case a_law_due => k_is)
    (case l_law_due => k_is)
    (case c_law_due => k_is)
    (case k_law_due => k_is)
    (case a_rank_look => k_is)
    (case l_rank_look => k_is)
    (case c_rank_look => k_is)
    (case k_rank_look => k_is)
    (case a_rank_looks => k_is)
    (case l_rank_looks => k_is)
    (case c_rank_looks => k_is)
    (case k_rank_looks => k_is)
    (case a_law_same => k_is)
    (case l_law_same => k_is)
    (case c_law_same => k_is)
    (case k_law_same => k_is)
    (case a_law_mixed => k_is)
    (case l_law_mixed => k_is)
    (case c_law_mixed => k_is)
    (case k_law_mixed => k_is)
    (case a_fraction => k_is)
    (case l_fraction => k_is)
    (case c_fraction => k_is)
    (case k_fraction => k_is)
    (case a_sum_value => k_is)
    (case l_sum_value => k_is)
    (case c_sum_value => k_is)
    (case k_sum_value => k_is)
    (case a_tile => k_is)
    (case l_tile => k_is)
    (case c_tile => k_is)
    (case k_tile => k_is)
    (case a_rank_value => k_is)
    (case l_rank_value => k_is)
    (case c_rank_value => k_is)
    (case k_rank_value => k_is)
    (case a_offset_value => k_is)
    (case l_offset_value => k_is)
    (case c_offset_value => k_is)
    (case k_offset_value => k_is)
    (case a_counted => k_is)
    (case l_counted => k_is)
    (case c_counted => k_is)
    (case k_counted => k_is)
    (case a_call_value => k_is)
    (case l_call_value => k_is)
    (case c_call_value => k_is)
    (case k_call_value => k_is)
    (case a_law_tile => k_is)
    (case l_law_tile => k_is)
    (case c_law_tile => k_is)
    (case k_law_tile => k_is)
    (case a_law_lowest => k_is)
    (case l_law_lowest => k_is)
    (case c_law_lowest => k_is)
    (case k_law_lowest => k_is)
    (case a_law_value => k_is)
    (case l_law_value => k_is)
    (case c_law_value => k_is)
    (case k_law_value => k_is)
    (case a_law_right => k_is)
    (case l_law_right => k_is)
    (case c_law_right => k_is)
    (case k_law_right => k_is)
    (case a_law => k_is)
    (case l_law => k_is)
    (case c_law => k_is)
    (case k_law => k_is)
    (case z_abs => k_is)
    (case z_all => k_is)
    (case z_bool => k_is)
    (case z_divmod => k_is)
    (case z_enumerate => k_is)
    (case z_gcd => k_is)
    (case z_int => k_is)
    (case z_isinstance => k_is)
    (case z_len => k_is)
    (case z_list => k_is)
    (case z_max => k_is)
    (case z_min => k_is)
    (case z_range => k_is)
    (case z_set => k_is)
    (case z_str => k_is)
    (case z_sum => k_is)
    (case z_tuple => k_is)
    (case z_zip => k_is)
    (case aa_OFFSETS => k_is)
    (case kd_OFFSETS => k_is)
    (case oa_OFFSETS => rfl)
    (case ob_OFFSETS => rfl)
    (case ts_OFFSETS => decide)
    (case ks_OFFSETS => repeat (first | exact .nil | refine .cons _ ?_))
    (case aa_RANKS => k_is)
    (case kd_RANKS => k_is)
    (case oa_RANKS => rfl)
    (case ob_RANKS => rfl)
    (case ts_RANKS => decide)
    (case ks_RANKS => repeat (first | exact .nil | refine .cons _ ?_))

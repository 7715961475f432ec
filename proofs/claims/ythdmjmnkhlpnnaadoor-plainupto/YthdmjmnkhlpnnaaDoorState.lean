/-
  The program's reader of bits in memory, what its functions leave as it was, and how it gives up.
-/
import Derived.Test.YthdmjmnkhlpnnaaDoorRows
import Derived.WalkKit
import Derived.WalkLawsBesides
import Derived.LoopTactic
import Derived.Below
import Derived.Deep.QuietTactic
import Derived.BigQuiet
import Derived.Deep.AppendLies
import Derived.Laws.BitsLemmas
namespace Go.Proofs.YthdmjmnkhlpnnaaDoor
open Go.RowKit

theorem hid {p : Prop} (h : p) : Hid p := h
/-- the byte in a place -/
def byt (s : ByteArray) (i : Nat) : Nat := (s.data.toList.getD i 0).toNat
/-- a bit by its number -/
def bitAt (s : ByteArray) (p : Nat) : Nat := byt s (p / 8) / 2 ^ (p % 8) % 2
/-- a number of n bits, the lowest first -/
def val (s : ByteArray) (p : Nat) : Nat → Nat
  | 0 => 0
  | n + 1 => val s p n + bitAt s (p + n) * 2 ^ n
theorem bitAt_lt (s : ByteArray) (p : Nat) : bitAt s p < 2 := Nat.mod_lt _ (by omega)
theorem byt_lt (s : ByteArray) (i : Nat) : byt s i < 256 := UInt8.toNat_lt _
theorem val_lt (s : ByteArray) (p n : Nat) : val s p n < 2 ^ n := by
  induction n with
  | zero => simp [val]
  | succ n ih =>
    have hb := bitAt_lt s (p + n)
    have : bitAt s (p + n) * 2 ^ n ≤ 1 * 2 ^ n := Nat.mul_le_mul_right _ (by omega)
    simp only [val, Nat.pow_succ]
    omega

theorem ret_int {k : IntKind} {a b : Int} (h : a = b) : Ending.returned (.int k a) = .returned (.int k b) := by rw [h]
/-- bytes as values -/
def bys (t : List UInt8) : List Value := t.map fun b => Value.int .u8 b.toNat

/-- what the functions of a reader leave as it was: all below its block, and every block that is neither a reader's (type X) nor of bytes -/
structure Kp (X : TypeId) (B : Nat) (w w' : World) : Prop where
  below : Below B w w'
  other : ∀ (k : Nat) (cs : Array Value) (T : TypeId) (fr : Nat × Nat), w.heap[k]? = some (.cells cs T fr) → T ≠ X → T ≠ 5 → w'.heap[k]? = w.heap[k]?
theorem Kp.refl (X : TypeId) (B : Nat) (w : World) : Kp X B w w := ⟨Below.refl _ _, fun _ _ _ _ _ _ _ => rfl⟩
theorem Kp.trans {X : TypeId} {B : Nat} {a b c : World} (h : Kp X B a b) (k : Kp X B b c) : Kp X B a c :=
  ⟨h.below.trans k.below, fun i cs T fr hi h1 h2 => (k.other i cs T fr ((h.other i cs T fr hi h1 h2).trans hi) h1 h2).trans (h.other i cs T fr hi h1 h2)⟩
theorem Kp.drew {X : TypeId} {B : Nat} {a w : World} (h : Kp X B a w) : Kp X B a w.drew := ⟨h.below.drew, h.other⟩
theorem Kp.drewN {X : TypeId} {B : Nat} {a w : World} (h : Kp X B a w) (n : Nat) : Kp X B a (w.drewN n) := ⟨⟨h.below.os, h.below.tape, h.below.output, h.below.size, h.below.block⟩, h.other⟩
theorem Kp.alloc {X : TypeId} {B : Nat} {a w : World} (h : Kp X B a w) (hB : B ≤ w.heap.size) (o : Obj) : Kp X B a (w.alloc o) :=
  h.trans ⟨(Below.refl _ _).alloc hB o, fun _ _ _ _ hk _ _ => Below.heap_alloc _ _ _ (Array.getElem?_eq_some_iff.1 hk).1⟩
theorem Kp.size {X : TypeId} {B : Nat} {a w : World} (h : Kp X B a w) : a.heap.size ≤ w.heap.size := h.below.size
/-- a store into the reader's block -/
theorem Kp.setCell {X : TypeId} {B : Nat} {a w : World} (h : Kp X B a w) {cs : Array Value} {fr : Nat × Nat} (hB : w.heap[B]? = some (.cells cs X fr)) {p : Addr} (hp : p.block = B) (u : Value) : Kp X B a (w.setCell p u) :=
  h.trans ⟨(Below.refl _ _).setCell (by omega) u, fun k cs' T fr' hk hT _ => Below.heap_setCell _ _ _ _ (fun e => by
    rw [e, hp, hB] at hk; injection hk with hk; injection hk with _ hk _; exact hT hk.symm)⟩
/-- a store into a new block -/
theorem Kp.setNew {X : TypeId} {B : Nat} {a w : World} (h : Kp X B a w) (hB : B ≤ a.heap.size) {p : Addr} (hp : a.heap.size ≤ p.block) (u : Value) : Kp X B a (w.setCell p u) :=
  ⟨h.below.setCell (by omega) u, fun k cs T fr hk h1 h2 => by
    have : k < a.heap.size := (Array.getElem?_eq_some_iff.1 hk).1
    rw [Below.heap_setCell _ _ _ _ (by omega)]; exact h.other k cs T fr hk h1 h2⟩
/-- an append to bytes of its own -/
theorem Kp.grown {X : TypeId} {B : Nat} {a w w' : World} {v : Value} {n : Nat} {xs : List Value} (h : Kp X B a w) (hg : w.grownBy w' v.ownBlock) (hB : B < w.heap.size) (ho : w.ownsRow (B + 1) 5 1 v n xs) : Kp X B a w' := by
  refine h.trans ⟨(Below.refl _ _).grown hg (by omega) ?_, fun k cs T fr hk _ h5 => hg.block k (Array.getElem?_eq_some_iff.1 hk).1 ?_⟩
  · intro k hk
    rcases ho with ⟨_, ⟨rfl, _⟩ | ⟨g, cap, cur, rfl, hg', _, _⟩⟩
    · simp [Value.ownBlock] at hk
    · simp [Value.ownBlock] at hk; omega
  · intro e
    rcases ho with ⟨_, ⟨rfl, _⟩ | ⟨g, cap, cur, rfl, _, hh, _⟩⟩
    · simp [Value.ownBlock] at e
    · simp [Value.ownBlock] at e
      subst e
      rw [hh] at hk; injection hk with hk; injection hk with _ hk _; exact h5 hk.symm

/-- the program's reader: its data, the number of the next bit, its text, how long it may be, where the fixed codes are -/
structure Rd (w : World) (B : Nat) (s : ByteArray) (p : Nat) (tv : Value) (t : List UInt8) (M : Int) (fx : Option Addr) : Prop where
  blk : w.heap[B]? = some (.cells #[.string s, .int .i64 ((p / 8 : Nat) : Int), .int .i64 ((p % 8 : Nat) : Int), tv, .int .i64 M, .pointer fx] 63 (0, 0))
  own : w.ownsRow (B + 1) 5 1 tv t.length (bys t)
  sml : s.size ≤ 1048576
  fit : p ≤ 8 * s.size
  len : (t.length : Int) ≤ M
  rom : t.length ≤ 258 * p

/-- what a panic of the reader's looks like -/
abbrev gone (e : Int) : Ending := .panicked [{ v := .iface 65 (.agg #[.int .i64 e]), recovered := false }]

set_option maxHeartbeats 400000 in
theorem give_any (e : Int) (w : World) : Calls Tryd.prog 54 #[.int .i64 e] w fun r w' => r = gone e ∧ w = w' := by
  go_enter Tryd.func54, Tryd.ntmps54
  go_wp2
  exact ⟨rfl, rfl, rfl⟩

theorem Rd.lt {w : World} {B : Nat} {s : ByteArray} {p : Nat} {tv : Value} {t : List UInt8} {M : Int} {fx : Option Addr} (h : Rd w B s p tv t M fx) : B < w.heap.size := (Array.getElem?_eq_some_iff.1 h.blk).1
theorem Rd.cell {w : World} {B : Nat} {s : ByteArray} {p : Nat} {tv : Value} {t : List UInt8} {M : Int} {fx : Option Addr} (h : Rd w B s p tv t M fx) :
    w.cell? ⟨B, 0, none⟩ = some (.string s) ∧ w.cell? ⟨B, 1, none⟩ = some (.int .i64 ((p / 8 : Nat) : Int)) ∧ w.cell? ⟨B, 2, none⟩ = some (.int .i64 ((p % 8 : Nat) : Int)) ∧ w.cell? ⟨B, 3, none⟩ = some tv ∧ w.cell? ⟨B, 4, none⟩ = some (.int .i64 M) ∧ w.cell? ⟨B, 5, none⟩ = some (.pointer fx) := by
  have e := fun j => cell_of_row w B j _ 63 (0, 0) h.blk
  exact ⟨by rw [e]; rfl, by rw [e]; rfl, by rw [e]; rfl, by rw [e]; rfl, by rw [e]; rfl, by rw [e]; rfl⟩
theorem Rd.free {w : World} {B : Nat} {s : ByteArray} {p : Nat} {tv : Value} {t : List UInt8} {M : Int} {fx : Option Addr} (h : Rd w B s p tv t M fx) (j : Nat) : w.frozen? ⟨B, j, none⟩ = false := by
  have h' := h.blk
  simp [World.frozen?, h']

theorem wraps_i64 (n : Int) (h₀ : 0 ≤ n) (h₁ : n < 2 ^ 62) : IntKind.i64.wrap n = n := by rw [IntKind.wrap_i64]; omega
theorem and_one (x : Int) (h0 : 0 ≤ x) (h1 : x < 4611686018427387904) : bits .and .i64 x 1 = x % 2 := by
  have h := bits_mask .i64 62 (by decide) wraps_i64 1 (by decide) x h0 (by omega)
  simpa using h
theorem or_low (n : Nat) (hn : n ≤ 40) (v b : Nat) (hv : v < 2 ^ n) (hb : b < 2) : bits .or .i64 (v : Int) ((b : Int) * 2 ^ n) = ((v + b * 2 ^ n : Nat) : Int) := by
  have hp : 2 ^ n ≤ 2 ^ 40 := Nat.pow_le_pow_right (by omega) hn
  have hq : b * 2 ^ n ≤ 1 * 2 ^ n := Nat.mul_le_mul_right _ (by omega)
  have e1 : (2 : Nat) ^ 40 = 1099511627776 := by decide
  have e2 : (2 : Nat) ^ 62 = 4611686018427387904 := by decide
  have h := (bits_nat .i64 62 (by decide) wraps_i64 v (b * 2 ^ n) (by omega) (by omega)).2
  have e3 : v ||| b * 2 ^ n = v + b * 2 ^ n := by
    rw [Nat.or_comm, Nat.mul_comm, Nat.add_comm, Nat.two_pow_add_eq_or_of_lt hv]
  rw [e3] at h
  have e4 : ((b * 2 ^ n : Nat) : Int) = (b : Int) * 2 ^ n := by push_cast; rfl
  rw [e4] at h
  exact h
theorem w64 (n : Int) (h : -9223372036854775808 ≤ n ∧ n ≤ 9223372036854775807) : wrap64 n = n := by unfold wrap64; omega
theorem bit_byte (s : ByteArray) (a b p : Nat) (ha : a = p / 8) (hb : b = p % 8) (h : a < s.size) : bits BinOp.and IntKind.i64 (wrap64 ↑s[a].toNat / 2 ^ b) 1 = (bitAt s p : Int) := by
  have h8 := UInt8.toNat_lt s[a]
  rw [w64 _ (by omega)]
  have e : ((s[a].toNat : Int) / 2 ^ b) = ((s[a].toNat / 2 ^ b : Nat) : Int) := by push_cast; rfl
  rw [e, and_one _ (Int.natCast_nonneg _) (by have := Nat.div_le_self s[a].toNat (2 ^ b); exact Int.ofNat_lt.2 (by omega : s[a].toNat / 2 ^ b < 4611686018427387904))]
  have e2 : byt s a = s[a].toNat := by
    unfold byt
    rw [List.getD_eq_getElem?_getD, List.getElem?_eq_getElem (by simpa using h)]
    rfl
  unfold bitAt
  rw [← ha, ← hb, e2]
  push_cast
  rfl

theorem Rd.drewN {w : World} {B : Nat} {s : ByteArray} {p : Nat} {tv : Value} {t : List UInt8} {M : Int} {fx : Option Addr} (h : Rd w B s p tv t M fx) (n : Nat) : Rd (w.drewN n) B s p tv t M fx := ⟨h.blk, h.own, h.sml, h.fit, h.len, h.rom⟩
/-- the reader's block turned: what it owns stays -/
theorem own_set {w : World} {B : Nat} {v : Value} {n : Nat} {xs : List Value} (h : w.ownsRow (B + 1) 5 1 v n xs) {a : Addr} (ha : a.block = B) (u : Value) : (w.setCell a u).ownsRow (B + 1) 5 1 v n xs :=
  ownsRow_setCell_below h (by omega) u
theorem blk_set {w : World} {B : Nat} {cs : Array Value} {T : TypeId} (h : w.heap[B]? = some (.cells cs T (0, 0))) (j : Nat) (u : Value) : (w.setCell ⟨B, j, none⟩ u).heap[B]? = some (.cells (cs.setIfInBounds j u) T (0, 0)) := by
  rw [setCell_eq_setRow w B j cs T (0, 0) _ h]
  exact setRow_heap w B cs _ T _ h

theorem Rd.alloc {w : World} {B : Nat} {s : ByteArray} {p : Nat} {tv : Value} {t : List UInt8} {M : Int} {fx : Option Addr} (h : Rd w B s p tv t M fx) (o : Obj) : Rd (w.alloc o) B s p tv t M fx := by
  refine ⟨?_, ?_, h.sml, h.fit, h.len, h.rom⟩
  · rw [Below.heap_alloc _ _ _ h.lt]; exact h.blk
  · obtain ⟨h1, h2⟩ := h.own
    refine ⟨h1, ?_⟩
    rcases h2 with h2 | ⟨g, cap, cur, hv, hg, hh, r⟩
    · exact Or.inl h2
    · exact Or.inr ⟨g, cap, cur, hv, hg, by rw [Below.heap_alloc _ _ _ (Array.getElem?_eq_some_iff.1 hh).1]; exact hh, r⟩
theorem Rd.drew {w : World} {B : Nat} {s : ByteArray} {p : Nat} {tv : Value} {t : List UInt8} {M : Int} {fx : Option Addr} (h : Rd w B s p tv t M fx) : Rd w.drew B s p tv t M fx := ⟨h.blk, h.own, h.sml, h.fit, h.len, h.rom⟩
/-- a block that is neither a reader's nor of bytes -/
theorem Kp.cells {X : TypeId} {B : Nat} {w w' : World} (h : Kp X B w w') {g T : Nat} {cs : Array Value} {fr : Nat × Nat} (hg : w.heap[g]? = some (.cells cs T fr)) (h1 : T ≠ X) (h2 : T ≠ 5) : w'.heap[g]? = some (.cells cs T fr) :=
  (h.other g cs T fr hg h1 h2).trans hg

set_option maxHeartbeats 800000 in
/-- a bit that is there -/
theorem next_ok (w : World) (B : Nat) (s : ByteArray) (p : Nat) (tv : Value) (t : List UInt8) (M : Int) (fx : Option Addr) (h : Rd w B s p tv t M fx) (hp : p < 8 * s.size) :
    Calls Tryd.prog 49 #[.pointer (some ⟨B, 0, none⟩)] w fun e w' => e = .returned (.int .i64 (bitAt s p)) ∧ Rd w' B s (p + 1) tv t M fx ∧ Kp 63 B w w' := by
  obtain ⟨c0, c1, c2, -, -, -⟩ := h.cell
  have f1 := h.free 1
  have f2 := h.free 2
  have hs := h.sml
  obtain ⟨a, ha⟩ : ∃ a, a = p / 8 := ⟨_, rfl⟩
  obtain ⟨b, hb⟩ : ∃ b, b = p % 8 := ⟨_, rfl⟩
  rw [← ha] at c1
  rw [← hb] at c2
  have hb8 : b < 8 := by omega
  have has : a < s.size := by omega
  have hne : ((a : Int) == (s.size : Int)) = false := beq_eq_false_iff_ne.2 (by omega)
  have HA : Hid (a = p / 8) := ha
  have HB : Hid (b = p % 8) := hb
  clear ha hb
  go_enter Tryd.func49, Tryd.ntmps49
  go_wp2
  go_quiet (fail)
  go_wp2
  go_quiet (fail)
  by_cases h7 : 7 ≤ b
  · have h78 : ((b : Int) + 1 == 8) = true := beq_iff_eq.2 (by omega)
    go_wp2
    go_ret
    refine ⟨ret_int (bit_byte s a b p HA.out HB.out has), ⟨?_, ?_, h.sml, by omega, h.len, by have := h.rom; omega⟩, ?_⟩
    · rw [blk_set (blk_set (blk_set (h.drewN _).blk _ _) _ _) _ _]
      have e1 : (p + 1) / 8 = a + 1 := by have := HA.out; have := HB.out; omega
      have e2 : (p + 1) % 8 = 0 := by have := HB.out; omega
      rw [e1, e2]
      rfl
    · exact own_set (own_set (own_set (h.drewN _).own rfl _) rfl _) rfl _
    · exact ((((Kp.refl 63 B w).drewN _).setCell (h.drewN _).blk rfl _).setCell (blk_set (h.drewN _).blk _ _) rfl _).setCell (blk_set (blk_set (h.drewN _).blk _ _) _ _) rfl _
  · have h78 : ((b : Int) + 1 == 8) = false := beq_eq_false_iff_ne.2 (by omega)
    go_wp2
    go_ret
    refine ⟨ret_int (bit_byte s a b p HA.out HB.out has), ⟨?_, ?_, h.sml, by omega, h.len, by have := h.rom; omega⟩, ?_⟩
    · rw [blk_set (h.drewN _).blk _ _]
      have e1 : (p + 1) / 8 = p / 8 := by have := HA.out; have := HB.out; omega
      have e2 : (p + 1) % 8 = b + 1 := by have := HB.out; omega
      rw [e1, e2]
      rfl
    · exact own_set (h.drewN _).own rfl _
    · exact ((Kp.refl 63 B w).drewN _).setCell (h.drewN _).blk rfl _

/-- the reader gave up -/
def Gave (B : Nat) (s : ByteArray) (tv : Value) (t : List UInt8) (M : Int) (fx : Option Addr) (err : Nat) (w : World) (e : Ending) (w' : World) : Prop :=
  e = gone err ∧ (∃ p', Rd w' B s p' tv t M fx) ∧ Kp 63 B w w'

set_option maxHeartbeats 800000 in
/-- a bit that is not there -/
theorem next_no (w : World) (B : Nat) (s : ByteArray) (p : Nat) (tv : Value) (t : List UInt8) (M : Int) (fx : Option Addr) (h : Rd w B s p tv t M fx) (hp : ¬ p < 8 * s.size) :
    Calls Tryd.prog 49 #[.pointer (some ⟨B, 0, none⟩)] w fun e w' => Gave B s tv t M fx 1 w e w' := by
  obtain ⟨c0, c1, c2, -, -, -⟩ := h.cell
  have hs := h.sml
  have hfit := h.fit
  obtain ⟨a, ha⟩ : ∃ a, a = p / 8 := ⟨_, rfl⟩
  rw [← ha] at c1
  have hne : ((a : Int) == (s.size : Int)) = true := beq_iff_eq.2 (by omega)
  clear ha
  go_enter Tryd.func49, Tryd.ntmps49
  go_wp2
  go_quiet (fail)
  go_wp2_with (go_at_call 54; refine (give_any _ _).mono ?_; rintro e w' ⟨rfl, rfl⟩)
  exact ⟨rfl, rfl, ⟨p, h.drewN _⟩, (Kp.refl 63 B w).drewN _⟩
end Go.Proofs.YthdmjmnkhlpnnaaDoor

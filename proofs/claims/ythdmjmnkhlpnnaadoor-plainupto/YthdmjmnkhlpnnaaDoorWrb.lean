/-
  The packer's writer of bits as one great number and how many bits it has.
-/
import Derived.Test.YthdmjmnkhlpnnaaDoorWri
namespace Go.Proofs.YthdmjmnkhlpnnaaDoor
open Go.RowKit

/-- bytes as a number, the lowest first -/
def leN : List UInt8 → Nat
  | [] => 0
  | b :: r => b.toNat + 256 * leN r
theorem leN_append (a b : List UInt8) : leN (a ++ b) = leN a + 256 ^ a.length * leN b := by
  induction a with
  | nil => simp [leN]
  | cons x a ih =>
    rw [List.cons_append, leN, leN, ih, List.length_cons, Nat.pow_succ, Nat.mul_add, Nat.mul_comm (256 ^ a.length) 256, Nat.mul_assoc]
    omega
theorem leN_lt (a : List UInt8) : leN a < 256 ^ a.length := by
  induction a with
  | nil => simp [leN]
  | cons x a ih =>
    have := x.toNat_lt
    rw [leN, List.length_cons, Nat.pow_succ]
    omega
theorem leN_byF (T k : Nat) : leN (byF T k) = T % 256 ^ k := by
  induction k with
  | zero => simp [byF, leN, Nat.mod_one]
  | succ k ih =>
    rw [byF, leN_append, ih, byF_length]
    simp only [leN, Nat.mul_zero, Nat.add_zero, UInt8.toNat_ofNat']
    rw [Nat.mod_eq_of_lt (a := T / 256 ^ k % 256) (by have := Nat.mod_lt (T / 256 ^ k) (show 0 < 256 by omega); omega), Nat.pow_succ, Nat.mod_mul]
/-- what is written so far: a number of so many bits -/
structure Wb (w : World) (B : Nat) (ov : Value) (V L : Nat) (pv sv : Value) : Prop where
  st : ∃ (o : List UInt8) (g c : Nat), Wr w B ov o g c pv sv ∧ c < 8 ∧ g < 2 ^ c ∧ V = leN o + 256 ^ o.length * g ∧ L = 8 * o.length + c
theorem pow256 (n : Nat) : 256 ^ n = 2 ^ (8 * n) := by rw [Nat.pow_mul]

theorem wnum_any (w : World) (B : Nat) (ov : Value) (V L : Nat) (pv sv : Value) (v n : Nat) (h : Wb w B ov V L pv sv) (hv : v < 2 ^ n) (hn : n ≤ 16) (hL : L ≤ 34359738368) :
    Calls Tryd.prog 66 #[.pointer (some ⟨B, 0, none⟩), .int .i64 v, .int .i64 n] w fun e w' => e = .returned (.tuple #[]) ∧ ∃ ov', Wb w' B ov' (V + 2 ^ L * v) (L + n) pv sv ∧ Kw B ov w w' ∧ Moved ov ov' w := by
  obtain ⟨o, g, c, hW, hc, hg, rfl, rfl⟩ := h.st
  have h16 : 2 ^ n ≤ 2 ^ 16 := Nat.pow_le_pow_right (by omega) hn
  have e16 : (2 : Nat) ^ 16 = 65536 := by decide
  refine (wnum_raw w B ov o g c pv sv v n hW hc hg (by omega) hn (by omega)).mono ?_
  rintro e w' ⟨rfl, ov', hW', hK, hM⟩
  refine ⟨rfl, ov', ⟨_, _, _, hW', by omega, ?_, ?_, ?_⟩, hK, hM⟩
  · have hT : g + v * 2 ^ c < 2 ^ (c + n) := by
      have h1 : v * 2 ^ c ≤ (2 ^ n - 1) * 2 ^ c := Nat.mul_le_mul_right _ (by omega)
      have h2 : (2 ^ n - 1) * 2 ^ c + 2 ^ c = 2 ^ n * 2 ^ c := by
        have := Nat.two_pow_pos n
        rw [← Nat.succ_mul]
        congr 1
        omega
      rw [Nat.add_comm c n, Nat.pow_add]
      omega
    rw [pow256]
    apply Nat.div_lt_of_lt_mul
    rw [← Nat.pow_add]
    rw [show 8 * ((c + n) / 8) + (c + n) % 8 = c + n by omega]
    exact hT
  · rw [leN_append, leN_byF, List.length_append, byF_length]
    have e2 : 2 ^ (8 * o.length + c) * v = 256 ^ o.length * (v * 2 ^ c) := by rw [Nat.pow_add, ← pow256, Nat.mul_assoc, Nat.mul_comm v]
    rw [e2, Nat.add_assoc, ← Nat.mul_add]
    generalize g + v * 2 ^ c = T
    generalize (c + n) / 8 = k
    rw [Nat.pow_add, Nat.mul_assoc, Nat.add_assoc, ← Nat.mul_add, Nat.mod_add_div]
  · rw [List.length_append, byF_length]
    omega

set_option maxHeartbeats 400000 in
theorem wflag_any (w : World) (B : Nat) (ov : Value) (V L : Nat) (pv sv : Value) (b : Bool) (h : Wb w B ov V L pv sv) (hL : L ≤ 34359738368) :
    Calls Tryd.prog 59 #[.pointer (some ⟨B, 0, none⟩), .bool b] w fun e w' => e = .returned (.tuple #[]) ∧ ∃ ov', Wb w' B ov' (V + 2 ^ L * b.toNat) (L + 1) pv sv ∧ Kw B ov w w' ∧ Moved ov ov' w := by
  have HN := hid (wnum_any w B ov V L pv sv b.toNat 1 h (by cases b <;> decide) (by omega) hL)
  clear h
  cases b
  · go_enter Tryd.func59, Tryd.ntmps59
    go_wp2_with (go_at_call 66; refine HN.out.mono ?_; rintro e w' ⟨rfl, hh⟩)
    go_end0
    exact ⟨rfl, hh⟩
  · go_enter Tryd.func59, Tryd.ntmps59
    go_wp2_with (go_at_call 66; refine HN.out.mono ?_; rintro e w' ⟨rfl, hh⟩)
    go_end0
    exact ⟨rfl, hh⟩

theorem left_bits : ∀ c : Nat, c < 16 → bits BinOp.and IntKind.i64 (-(c : Int)) 7 = (((8 - c % 8) % 8 : Nat) : Int) := by decide
theorem left_any (w : World) (c : Nat) (hc : c < 16) :
    Calls Tryd.prog 67 #[.int .i64 c] w fun e w' => e = .returned (.int .i64 ((8 - c % 8) % 8 : Nat)) ∧ w = w' := by
  have hb := left_bits c hc
  obtain ⟨x, hx⟩ : ∃ x, x = (8 - c % 8) % 8 := ⟨_, rfl⟩
  rw [← hx] at hb ⊢
  clear hx
  go_enter Tryd.func67, Tryd.ntmps67
  go_wp2
  go_ret
  exact ⟨rfl, rfl⟩

theorem Wb.count {w : World} {B : Nat} {ov : Value} {V L : Nat} {pv sv : Value} (h : Wb w B ov V L pv sv) : w.cell? ⟨B, 2, none⟩ = some (.int .i64 ((L % 8 : Nat) : Int)) := by
  obtain ⟨o, g, c, hW, hc, hg, rfl, rfl⟩ := h.st
  rw [hW.cell.2.2.1, show (8 * o.length + c) % 8 = c by omega]
/-- how many bits are wanted until all are whole bytes -/
def lft (L : Nat) : Nat := (8 - L % 8) % 8
set_option maxHeartbeats 400000 in
theorem wend_any (w : World) (B : Nat) (ov : Value) (V L : Nat) (pv sv : Value) (h : Wb w B ov V L pv sv) (hL : L ≤ 34359738368) :
    Calls Tryd.prog 48 #[.pointer (some ⟨B, 0, none⟩)] w fun e w' => e = .returned (.tuple #[]) ∧ ∃ ov', Wb w' B ov' V (L + lft L) pv sv ∧ Kw B ov w w' ∧ Moved ov ov' w := by
  have c2 := h.count
  have HN := wnum_any w B ov V L pv sv 0 (lft L) h (Nat.two_pow_pos _) (by unfold lft; omega) hL
  rw [Nat.mul_zero, Nat.add_zero] at HN
  have HN := hid HN
  have HL := left_any w (L % 8) (by omega)
  rw [show (8 - L % 8 % 8) % 8 = lft L by unfold lft; omega] at HL
  have HLF := hid HL
  clear h HL
  obtain ⟨x, hx⟩ : ∃ x, x = lft L := ⟨_, rfl⟩
  obtain ⟨y, hy⟩ : ∃ y, y = L % 8 := ⟨_, rfl⟩
  rw [← hx] at HN HLF ⊢
  rw [← hy] at HLF c2
  clear hx hy
  go_enter Tryd.func48, Tryd.ntmps48
  go_wp2_with (first | (go_at_call 67; refine HLF.out.mono ?_; rintro e w' ⟨rfl, rfl⟩) | (go_at_call 66; refine HN.out.mono ?_; rintro e w' ⟨rfl, hh⟩))
  go_end0
  exact ⟨rfl, hh⟩
end Go.Proofs.YthdmjmnkhlpnnaaDoor

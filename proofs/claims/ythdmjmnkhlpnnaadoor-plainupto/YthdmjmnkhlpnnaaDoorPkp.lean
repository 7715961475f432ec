/-
  Plain: the bytes of blocks as they are, one behind the other.
-/
import Derived.Test.YthdmjmnkhlpnnaaDoorPkd
namespace Go.Proofs.YthdmjmnkhlpnnaaDoor
open Go.RowKit

theorem leN_inj : ∀ (a b : List UInt8), a.length = b.length → leN a = leN b → a = b
  | [], [], _, _ => rfl
  | [], _ :: _, h, _ => by simp at h
  | _ :: _, [], h, _ => by simp at h
  | x :: a, y :: b, h, e => by
    have hx := x.toNat_lt
    have hy := y.toNat_lt
    simp only [leN] at e
    have e1 : x.toNat = y.toNat := by omega
    have e2 : leN a = leN b := by omega
    rw [leN_inj a b (by simpa using h) e2, UInt8.toNat_inj.1 e1]
/-- the five bytes ahead of so many bytes as they are -/
def hdr (b : Bool) (n : Nat) : List UInt8 := [UInt8.ofNat b.toNat, UInt8.ofNat (n % 256), UInt8.ofNat (n / 256), UInt8.ofNat ((65535 - n) % 256), UInt8.ofNat ((65535 - n) / 256)]
theorem hdr_leN (b : Bool) (n : Nat) (h : n ≤ 65535) : leN (hdr b n) = b.toNat + 256 * n + 16777216 * (65535 - n) := by
  have hb : b.toNat ≤ 1 := by cases b <;> decide
  simp only [hdr, leN, UInt8.toNat_ofNat']
  omega
theorem blV_bytes (o t : List UInt8) (b : Bool) (ht : t.length ≤ 65535) : blV (leN o) (8 * o.length) t b = leN (o ++ (hdr b t.length ++ t)) := by
  rw [leN_append, leN_append, hdr_leN b t.length ht, pow256]
  unfold blV
  have hl : 8 * o.length + 3 + lft (8 * o.length + 3) = 8 * o.length + 8 := by unfold lft; omega
  have e5 : 256 ^ (hdr b t.length).length = 1099511627776 := by show 256 ^ 5 = _; decide
  rw [hl, Nat.pow_add, show (2 : Nat) ^ 8 = 256 by decide, e5, Nat.mul_assoc, Nat.add_assoc, ← Nat.mul_add]
  congr 2
  omega
theorem blL_bytes (o t : List UInt8) (b : Bool) : blL (8 * o.length) t.length = 8 * (o ++ (hdr b t.length ++ t)).length := by
  have hl : 8 * o.length + 3 + lft (8 * o.length + 3) = 8 * o.length + 8 := by unfold lft; omega
  unfold blL
  rw [hl, List.length_append, List.length_append, show (hdr b t.length).length = 5 from rfl]
  omega
/-- a text by blocks as they are, each as long as may be -/
def plF : Nat → List UInt8 → List UInt8
  | 0, u => hdr true u.length ++ u
  | f + 1, u => if 65535 < u.length then hdr false 65535 ++ u.take 65535 ++ plF f (u.drop 65535) else hdr true u.length ++ u
theorem adF_bytes (f : Nat) (o u : List UInt8) (h : u.length < f) : let r := adF f (leN o) (8 * o.length) [] u
    r.2.2.length ≤ 65535 ∧ blV r.1 r.2.1 r.2.2 true = leN (o ++ plF f u) ∧ blL r.2.1 r.2.2.length = 8 * (o ++ plF f u).length ∧ r.2.1 ≤ 8 * o.length + 16 * u.length := by
  induction f generalizing o u with
  | zero => omega
  | succ f ih =>
    simp only [adF, List.length_nil, Nat.zero_add, Nat.sub_zero, List.nil_append, plF]
    by_cases hb : 65535 < u.length
    · rw [if_pos hb, if_pos hb]
      have hl : (u.take 65535).length = 65535 := by rw [List.length_take]; omega
      have h1 := blV_bytes o (u.take 65535) false (by omega)
      have h2 := blL_bytes o (u.take 65535) false
      rw [hl] at h1 h2
      rw [h1, h2]
      have h3 := ih (o ++ (hdr false 65535 ++ u.take 65535)) (u.drop 65535) (by rw [List.length_drop]; omega)
      simp only at h3
      obtain ⟨a1, a2, a3, a4⟩ := h3
      refine ⟨a1, by rw [a2]; simp only [List.append_assoc], by rw [a3]; simp only [List.append_assoc], ?_⟩
      have hn : (o ++ (hdr false 65535 ++ u.take 65535)).length = o.length + 65540 := by rw [List.length_append, List.length_append, hl]; rfl
      have hd : (u.drop 65535).length = u.length - 65535 := List.length_drop
      omega
    · rw [if_neg hb, if_neg hb]
      refine ⟨by simp only; omega, ?_, ?_, by simp only; omega⟩
      · exact blV_bytes o u true (by omega)
      · exact blL_bytes o u true

theorem isLevel_any (w : World) (n : Int) :
    Calls Tryd.prog 27 #[.int .i64 n] w fun e w' => e = .returned (.bool (decide (0 ≤ n) && decide (n ≤ 9))) ∧ w = w' := by
  by_cases h0 : 0 ≤ n
  · have d0 : decide (0 ≤ n) = true := by simp [h0]
    rw [d0, Bool.true_and]
    go_enter Tryd.func27, Tryd.ntmps27
    go_wp2
    go_ret
    exact ⟨rfl, rfl⟩
  · have d0 : decide (0 ≤ n) = false := by simp; omega
    rw [d0, Bool.false_and]
    go_enter Tryd.func27, Tryd.ntmps27
    go_wp2
    go_ret
    exact ⟨rfl, rfl⟩
set_option maxRecDepth 20000 in
set_option maxHeartbeats 800000 in
theorem deflate0_any (w : World) (S : ByteArray) (hS : S.size ≤ 1048576) :
    Calls Tryd.prog 11 #[.string S, .int .i64 0] w fun e w' => e = .returned (.tuple #[.string ⟨(plF (S.size + 1) S.data.toList).toArray⟩, .int .i64 0]) ∧ Below w.heap.size w w' := by
  have hsl : S.data.toList.length = S.size := by rw [Array.length_toList]; rfl
  have hA := adF_bytes (S.size + 1) [] S.data.toList (by omega)
  simp only [List.length_nil, Nat.mul_zero, List.nil_append, show leN [] = 0 from rfl, hsl, Nat.zero_add] at hA
  obtain ⟨a1, a2, a3, a4⟩ := hA
  obtain ⟨R, hR⟩ : ∃ R, R = adF (S.size + 1) 0 0 [] S.data.toList := ⟨_, rfl⟩
  rw [← hR] at a1 a2 a3 a4
  obtain ⟨P, hP⟩ : ∃ P, P = plF (S.size + 1) S.data.toList := ⟨_, rfl⟩
  rw [← hP] at a2 a3 ⊢
  have HA1 := hid a2
  have HA2 := hid a3
  have HA3 := hid a1
  have hR21 : R.2.1 ≤ 8589934592 := by omega
  obtain ⟨B, hB⟩ : ∃ B, B = w.heap.size := ⟨_, rfl⟩
  have HBB := hid hB
  have HAD : Hid (∀ u : World, Pk u B 0 0 [] (.pointer none) → Calls Tryd.prog 29 #[.pointer (some ⟨B, 0, none⟩), .string S] u fun e w' => e = .returned (.tuple #[]) ∧ Pk w' B R.1 R.2.1 R.2.2 (.pointer none) ∧ Kk B u w') := fun u hu => by
    rw [hR]
    exact add0_any u B 0 0 [] S (S.size + 1) hu (by simp) hS (by omega) (by simp)
  have HEN : Hid (∀ u : World, Pk u B R.1 R.2.1 R.2.2 (.pointer none) → Calls Tryd.prog 30 #[.pointer (some ⟨B, 0, none⟩)] u fun e w' => e = .returned (.tuple #[]) ∧ Pk w' B (leN P) (8 * P.length) [] (.pointer none) ∧ Kk B u w') := fun u hu => by
    rw [← HA1.out, ← HA2.out]
    exact end0_any u B R.1 R.2.1 R.2.2 hu HA3.out hR21
  have HNW : Hid (Calls Tryd.prog 28 #[.int .i64 0] w fun e w' => e = .returned (.pointer (some ⟨B, 0, none⟩)) ∧ Pk w' B 0 0 [] (.pointer none) ∧ Below B w w') := by rw [hB]; exact new0_any w
  clear hB hR hP a1 a2 a3 a4 hsl
  go_enter Tryd.func11, Tryd.ntmps11
  go_wp2_with (first | (go_at_call 27; refine (isLevel_any _ 0).mono ?_; rintro e w' ⟨rfl, rfl⟩) | (go_at_call 28; refine HNW.out.mono ?_; rintro e w1 ⟨rfl, hp1, hb1⟩; have HP1 := hid hp1; have HB1 := hid hb1; clear hp1 hb1) | (go_at_call 29; refine (HAD.out _ HP1.out).mono ?_; rintro e w2 ⟨rfl, hp2, hk2⟩; have HP2 := hid hp2; have HK2 := hid hk2; clear hp2 hk2) | (go_at_call 30; refine (HEN.out _ HP2.out).mono ?_; rintro e w3 ⟨rfl, hp3, hk3⟩; have HP3 := hid hp3; have HK3 := hid hk3; clear hp3 hk3) | (go_at_call 31; refine (take_any _ B _ _ _ _ HP3.out).mono ?_; rintro e w4 ⟨o, g, c, rfl, hc, hg, hV, hL, hp4, hk4⟩; have HO := hid (And.intro hc (And.intro hg (And.intro hV hL))); have HK4 := hid hk4; clear hc hg hV hL hp4 hk4))
  go_ret2
  obtain ⟨hc, hg, hV, hL⟩ := HO.out
  obtain rfl : c = 0 := by omega
  obtain rfl : g = 0 := by have : (2 : Nat) ^ 0 = 1 := rfl; omega
  have e : P = o := leN_inj P o (by omega) (by simpa using hV)
  rw [e]
  refine ⟨rfl, ?_⟩
  rw [← HBB.out]
  exact ((HB1.out.trans HK2.out.below).trans HK3.out.below).trans HK4.out.below
end Go.Proofs.YthdmjmnkhlpnnaaDoor

/-
  One byte more at the text of the program's reader.
-/
import Derived.Test.YthdmjmnkhlpnnaaDoorNum
namespace Go.Proofs.YthdmjmnkhlpnnaaDoor
open Go.RowKit

theorem info_parts {P : Program} {e : TypeId} {z : Value} {n b : Nat} (h : (P.info? e).map (fun i => (i.zero, i.size, i.bytes)) = some (some z, n, b)) : ∃ i, P.info? e = some i ∧ i.zero = some z ∧ i.size = n ∧ i.bytes = b := by
  cases hi : P.info? e with
  | none => rw [hi] at h; simp at h
  | some i => rw [hi] at h; simp at h; exact ⟨i, rfl, h.1, h.2.1, h.2.2⟩
theorem info5 : (Tryd.prog.info? 5).map (fun i => (i.zero, i.size, i.bytes)) = some (some (.int .u8 0), 1, 1) := by kernel_rfl
theorem bys_length (t : List UInt8) : (bys t).length = t.length := by simp [bys]
theorem bys_snoc (t : List UInt8) (b : UInt8) : bys (t ++ [b]) = bys t ++ [.int .u8 b.toNat] := by simp [bys]

set_option maxRecDepth 20000 in
set_option maxHeartbeats 800000 in
/-- one byte more, where it may come -/
theorem add_ok (w : World) (B : Nat) (s : ByteArray) (p : Nat) (tv : Value) (t : List UInt8) (M : Int) (fx : Option Addr) (b : UInt8) (h : Rd w B s p tv t M fx) (hp : (t.length : Int) < M) (hrm : t.length + 1 ≤ 258 * p) :
    Calls Tryd.prog 69 #[.pointer (some ⟨B, 0, none⟩), .int .u8 b.toNat] w fun e w' => e = .returned (.tuple #[]) ∧ (∃ tv', Rd w' B s p tv' (t ++ [b]) M fx) ∧ Kp 63 B w w' := by
  obtain ⟨-, -, -, c3, c4, -⟩ := h.cell
  have f3 := h.free 3
  have ht : t.length ≤ 4294967296 := by have := h.rom; have := h.fit; have := h.sml; omega
  have hne : ((t.length : Int) == M) = false := beq_eq_false_iff_ne.2 (by omega)
  have hB := h.lt
  have HR := hid h
  obtain ⟨i0, hi, hz0, hz1, hz2⟩ := info_parts info5
  obtain ⟨ao, c, hsh⟩ : ∃ ao c, tv = .slice ao t.length c := by
    obtain ⟨_, ⟨rfl, h0⟩ | ⟨g, cap, cur, rfl, _⟩⟩ := h.own
    · exact ⟨none, 0, by rw [h0]⟩
    · exact ⟨_, _, rfl⟩
  subst hsh
  clear h
  go_enter Tryd.func69, Tryd.ntmps69
  go_wp2
  go_quiet (fail)
  go_wp2_with (at_builtin; refine wpList_append_lies _ rfl (.tmp 19) (.tmp 21) 33 rfl (B + 1) 5 i0 (.int .u8 0) 1 1 Tryd.underlying33 hi hz0 hz1 hz2 rfl (by decide) (.slice ao t.length c) t.length (bys t) rfl ((HR.out.drewN _).alloc _).own ⟨w.heap.size, 0, none⟩ 1 1 [.int .u8 b.toNat] rfl rfl (cell_one_new _ _ _) ?c2 (by decide) ?c3 ?c4 ?c5 _ rfl ?_)
  case c2 => intro u hu; simp at hu; subst hu; rfl
  case c3 => unfold maxLen; omega
  case c4 => omega
  case c5 => simp; omega
  intro g cap w1 hown hgrow hat hlt
  have hK1 : Kp 63 B w w1 := (((Kp.refl 63 B w).drewN nq).alloc (by simp; omega) _).grown hgrow (by simp; omega) ((HR.out.drewN nq).alloc _).own
  have hblk : w1.heap[B]? = some (.cells #[.string s, .int .i64 ((p / 8 : Nat) : Int), .int .i64 ((p % 8 : Nat) : Int), .slice ao t.length c, .int .i64 M, .pointer fx] 63 (0, 0)) := by
    refine (hgrow.block B (by simp; omega) ?_).trans ((HR.out.drewN nq).alloc _).blk
    intro e
    have := ((HR.out.drewN nq).alloc (.cells #[.int .u8 b.toNat] 5)).own.lt B e.symm
    omega
  have c3' : w1.cell? ⟨B, 3, none⟩ = some (.slice ao t.length c) := by rw [cell_of_row w1 B 3 _ 63 (0, 0) hblk]; rfl
  have f3' : w1.frozen? ⟨B, 3, none⟩ = false := by simp [World.frozen?, hblk]
  clear hgrow hat hlt c3 c4 f3 hi hz0 hz1 hz2
  have HB1 := hid hblk
  clear hblk
  go_wp2
  go_end0
  refine ⟨rfl, ⟨.slice (some ⟨g, 0, none⟩) (t.length + 1) cap, ⟨?_, ?_, HR.out.sml, HR.out.fit, by simp; omega, by simp; exact hrm⟩⟩, hK1.setCell HB1.out rfl _⟩
  · rw [blk_set HB1.out]
    rfl
  · rw [bys_snoc, List.length_append]
    exact own_set hown rfl _

set_option maxRecDepth 20000 in
set_option maxHeartbeats 800000 in
/-- one byte too many -/
theorem add_no (w : World) (B : Nat) (s : ByteArray) (p : Nat) (tv : Value) (t : List UInt8) (M : Int) (fx : Option Addr) (b : UInt8) (h : Rd w B s p tv t M fx) (hp : (t.length : Int) = M) :
    Calls Tryd.prog 69 #[.pointer (some ⟨B, 0, none⟩), .int .u8 b.toNat] w fun e w' => Gave B s tv t M fx 6 w e w' := by
  obtain ⟨-, -, -, c3, c4, -⟩ := h.cell
  have hne : ((t.length : Int) == M) = true := beq_iff_eq.2 hp
  have HR := hid h
  obtain ⟨ao, c, hsh⟩ : ∃ ao c, tv = .slice ao t.length c := by
    obtain ⟨_, ⟨rfl, h0⟩ | ⟨g, cap, cur, rfl, _⟩⟩ := h.own
    · exact ⟨none, 0, by rw [h0]⟩
    · exact ⟨_, _, rfl⟩
  subst hsh
  clear h hp
  go_enter Tryd.func69, Tryd.ntmps69
  go_wp2
  go_quiet (fail)
  go_wp2_with (go_at_call 54; refine (give_any _ _).mono ?_; rintro e w' ⟨rfl, rfl⟩)
  exact ⟨rfl, rfl, ⟨_, HR.out.drewN _⟩, (Kp.refl 63 B w).drewN _⟩
end Go.Proofs.YthdmjmnkhlpnnaaDoor

/-
  A number so many times: slices.Repeat of one number.
-/
import Derived.Test.YthdmjmnkhlpnnaaDoorLnw
import Derived.Laws.CopyOwn
import Derived.Deep.RegionLaw
namespace Go.Proofs.YthdmjmnkhlpnnaaDoor
open Go.RowKit

theorem wraps_u64' (n : Int) (h₀ : 0 ≤ n) (h₁ : n < 2 ^ 63) : IntKind.u64.wrap n = n := by rw [IntKind.wrap_u64]; omega
theorem and32 (n : Nat) (h : n < 4294967296) : bits .and .u64 (n : Int) 4294967295 = n := by
  have hm := bits_mask .u64 63 (by decide) wraps_u64' 32 (by decide) (n : Int) (by omega) (by omega)
  have e : ((2 : Int) ^ 32 - 1) = 4294967295 := by decide
  have e2 : ((2 : Int) ^ 32) = 4294967296 := by decide
  rw [e, e2] at hm
  rw [hm]
  omega
set_option maxHeartbeats 800000 in
theorem mul64_any (n : Nat) (hn : n ≤ 1000) (w : World) : Calls Tryd.prog 150 #[.int .u64 1, .int .u64 n] w fun e w' => e = .returned (.tuple #[.int .u64 0, .int .u64 n]) ∧ w = w' := by
  have a1 : bits .and .u64 1 4294967295 = 1 := by decide
  have a2 := and32 n (by omega)
  have a0 : bits .and .u64 0 4294967295 = 0 := by decide
  have d0 : (n : Int) / 4294967296 = 0 := by omega
  have d1 : (n : Int) / 2 ^ 32 = 0 := by omega
  go_enter Tryd.func150, Tryd.ntmps150
  go_wp2
  go_ret2
  exact ⟨rfl, rfl⟩

set_option maxHeartbeats 800000 in
theorem mul_any (n : Nat) (hn : n ≤ 1000) (w : World) : Calls Tryd.prog 139 #[.int .u64 1, .int .u64 n] w fun e w' => e = .returned (.tuple #[.int .u64 0, .int .u64 n]) ∧ w = w' := by
  go_enter Tryd.func139, Tryd.ntmps139
  go_wp2_with (go_at_call 150; refine (mul64_any n hn _).mono ?_; rintro e w' ⟨rfl, rfl⟩)
  go_ret2
  exact ⟨rfl, rfl⟩

/-- n of N numbers are laid -/
def rp (N : Nat) (z : Int) (n : Nat) : List Int := List.replicate n z ++ List.replicate (N - n) 0
theorem rp_length (N : Nat) (z : Int) (n : Nat) (h : n ≤ N) : (rp N z n).length = N := by simp [rp]; omega
theorem rp_all (N : Nat) (z : Int) : rp N z N = List.replicate N z := by simp [rp]
theorem rp_zero (N : Nat) (z : Int) : rp N z 0 = List.replicate N 0 := by simp [rp]
theorem rp_splice (N : Nat) (z : Int) (n m : Nat) (h : n + m ≤ N) : splice (ivs (rp N z n)) n (List.replicate m (Value.int .i64 z)) = ivs (rp N z (n + m)) := by
  unfold splice rp ivs
  rw [List.map_append, List.map_append, List.map_replicate, List.map_replicate, List.map_replicate, List.map_replicate, List.length_replicate]
  rw [List.take_append_of_le_length (by simp), List.take_of_length_le (by simp), List.drop_append, List.drop_of_length_le (by simp), List.nil_append, List.length_replicate, List.drop_replicate, ← List.append_assoc, List.replicate_append_replicate]
  rw [show N - n - (n + m - n) = N - (n + m) by omega]
theorem Row.arr {w : World} {g : Nat} {l : List Int} (h : Row w g l) : w.heap[g]? = some (.cells (ivs l).toArray 3 (0, 0)) := h
theorem info3' : (Tryd.prog.info? 3).map (fun x => x.size) = some 1 := by kernel_rfl
theorem rep_one (m : Nat) (z : Int) (v : Value) (h : v ∈ List.replicate m (Value.int .i64 z)) : v.oneCell' = true := by rw [(List.mem_replicate.1 h).2]; rfl

set_option maxRecDepth 20000 in
set_option maxHeartbeats 1600000 in
theorem repeat_any (w : World) (b N : Nat) (z : Int) (hN : 1 ≤ N) (hN2 : N ≤ 1000) (hc : w.cell? ⟨b, 0, none⟩ = some (.int .i64 z)) :
    Calls Tryd.prog 127 #[.slice (some ⟨b, 0, none⟩) 1 1, .int .i64 N] w fun e w' => ∃ g, e = .returned (.slice (some ⟨g, 0, none⟩) N N) ∧ w.heap.size ≤ g ∧ Row w' g (List.replicate N z) ∧ Below w.heap.size w w' := by
  have hbl : b < w.heap.size := World.block_lt_of_cell? w _ hc
  obtain ⟨i0, hi, hz0, hz1, hz2⟩ := info_parts info3
  have hmk : ∀ u : World, (Instr.makeSlice 45 (.int .i64 (N : Int)) (.int .i64 (N : Int))).run Tryd.prog u =
      .ok (.slice (some ⟨u.heap.size, 0, none⟩) N N) (u.alloc (.cells (nums (List.replicate N 0)) 3)) := fun u => by
    have h := run_make (P := Tryd.prog) u 45 3 i0 (.int .i64 0) Tryd.underlying45 hi hz0 .i64 .i64 (N : Int) (N : Int) (by omega) (Int.le_refl _) (by rw [hz2]; omega) (by omega)
    rw [hz1, Nat.mul_one, show (Value.int IntKind.i64 0).cells = #[Value.int .i64 0] from rfl, show ((N : Int)).toNat = N by omega, nums_made] at h
    exact h
  clear hi hz0 hz1 hz2
  have hrow0 : Row (w.alloc (.cells (nums (List.replicate N 0)) 3)) w.heap.size (rp N z 0) := by rw [rp_zero]; exact heap_alloc_new w _
  have HROW := hid hrow0
  have HCC : Hid (∀ j v, [Value.int .i64 z][j]? = some v → (w.alloc (.cells (nums (List.replicate N 0)) 3)).cell? (Addr.add ⟨b, 0, none⟩ j) = some v) := fun j v hj => by
    match j, hj with
    | 0, hj =>
      simp at hj
      subst hj
      show (w.alloc _).cell? ⟨b, 0 + 0, none⟩ = _
      rw [World.cell?_of_block (w := w) (Below.heap_alloc _ _ _ hbl)]
      exact hc
  clear hrow0
  go_enter Tryd.func127, Tryd.ntmps127
  go_wp2_with (first | (go_at_call 139; refine (mul_any N hN2 _).mono ?_; rintro e w' ⟨rfl, rfl⟩) | (refine wpList_copy_splice rfl (.tmp 31) (.tmp 32) 45 45 rfl 3 Tryd.underlying45 info3' (some ⟨w.heap.size, 0, none⟩) (some ⟨b, 0, none⟩) N N 1 1 rfl rfl w.heap.size 0 (ivs (rp N z 0)) 3 HROW.out.arr [.int .i64 z] ?q1 (fun _ => ⟨rfl, _, rfl, HCC.out⟩) ?q2 ?q3 w.heap.size w ?q4 (Nat.le_refl _) ?_))
  case q1 => show 1 = min 1 N; omega
  case q2 => simp [ivs, rp_length]; omega
  case q3 => intro v hv; simp at hv; subst hv; rfl
  case q4 => exact (Below.refl _ _).alloc (Nat.le_refl _) _
  intro w2 hrow2 hb2
  have hrow2' : Row w2 w.heap.size (rp N z 1) := by
    have e := rp_splice N z 0 1 (by omega)
    rw [Nat.zero_add] at e
    have h2 := hrow2.out
    rw [show ([.int .i64 z] : List Value) = List.replicate 1 (.int .i64 z) from rfl, e] at h2
    exact h2
  have HR2 := hid hrow2'
  clear hrow2 hrow2' HROW HCC hmk
  go_wp2
  go_loopw [8] (fun i wr => ∃ n : Nat, 1 ≤ n ∧ n ≤ N ∧ i = .int .i64 n ∧ Hid (Row wr w.heap.size (rp N z n)) ∧ Below w.heap.size w wr) (fun i _ => N - (intOf i).toNat)
  case atStart => exact ⟨1, by omega, by omega, rfl, HR2, hb2⟩
  case round =>
    clear HR2 hb2
    obtain ⟨n, h1, hn, rfl, hR, hB⟩ := hrel
    by_cases hlt : n < N
    · obtain ⟨m, hm⟩ : ∃ m, m = min n (N - n) := ⟨_, rfl⟩
      have hm1 : 1 ≤ m := by omega
      have hm2 : n + m ≤ N := by omega
      have HM := hid hm
      have HSRC : Hid (∀ j v, (List.replicate m (Value.int .i64 z))[j]? = some v → wr.drew.cell? (Addr.add ⟨w.heap.size, 0, none⟩ j) = some v) := fun j v hj => by
        refine World.news_of_block (w := wr.drew) (B := w.heap.size) hR.out.arr j v ?_
        obtain ⟨hjm, hv⟩ := List.getElem?_eq_some_iff.1 hj
        simp only [List.length_replicate, List.getElem_replicate] at hjm hv
        subst hv
        unfold rp ivs
        simp only [List.map_append, List.map_replicate]
        rw [List.getElem?_append_left (by simp; omega), List.getElem?_replicate, if_pos (by omega)]
      have hNn : ¬ N = n := by omega
      have hcp : (Builtin.copy_ #[45, 45] 3 #[.slice (some ⟨w.heap.size, n, none⟩) (N - n) (N - n), .slice (some ⟨w.heap.size, 0, none⟩) n N]).run Tryd.prog wr.drew = .ok (.int .i64 (m : Int)) (wr.drew.setRow w.heap.size (nums (rp N z (n + m)))) := by
        have h := run_copy_row Tryd.prog wr.drew 45 45 3 3 w.heap.size n (N - n) (N - n) ⟨w.heap.size, 0, none⟩ n N (nums (rp N z n)) 3 (List.replicate m (Value.int .i64 z)) Tryd.underlying45 info3' hR.out (by rw [List.length_replicate, hm]) HSRC.out (by rw [List.length_replicate, nums_size, rp_length _ _ _ hn]; exact hm2) (rep_one m z)
        have e := rp_splice N z n m hm2
        unfold splice at e
        rw [← List.append_assoc] at e
        have e2 : (nums (rp N z n)).toList = ivs (rp N z n) := rfl
        rw [e2, e, List.length_replicate] at h
        exact h
      clear hm
      go_wp2
      go_region
      all_goals
        go_wp2
        refine ⟨⟨n + m, by omega, hm2, int_eq (by omega), ?_, below_setRow hB.drew (Nat.le_refl _) _⟩, by simp [intOf]; omega⟩
        exact setRow_heap wr.drew w.heap.size (nums (rp N z n)) _ 3 _ hR.out
    · obtain rfl : n = N := by omega
      have hR' := hR.out
      rw [rp_all] at hR'
      have HR' := hid hR'
      clear hR'
      go_wp2
      go_ret
      exact ⟨w.heap.size, rfl, Nat.le_refl _, HR'.out, hB⟩

set_option maxHeartbeats 800000 in
theorem rep_any (w : World) (N : Nat) (z : Int) (hN : 1 ≤ N) (hN2 : N ≤ 1000) :
    Calls Tryd.prog 104 #[.int .i64 z, .int .i64 N] w fun e w' => ∃ g, e = .returned (.slice (some ⟨g, 0, none⟩) N N) ∧ w.heap.size ≤ g ∧ Row w' g (List.replicate N z) ∧ Below w.heap.size w w' := by
  have HC : Hid ((w.alloc (.cells #[.int .i64 z] 3)).cell? ⟨w.heap.size, 0, none⟩ = some (.int .i64 z)) := by show _ = _; simp
  go_enter Tryd.func104, Tryd.ntmps104
  go_wp2_with (go_at_call 127; refine (repeat_any _ w.heap.size N z hN hN2 HC.out).mono ?_; rintro e w1 ⟨g, rfl, hg, hR, hB⟩)
  go_ret
  have hsz : w.heap.size ≤ g := by simp at hg; omega
  exact ⟨g, rfl, hsz, hR, ((Below.refl _ _).alloc (Nat.le_refl _) _).trans (hB.mono (by simp))⟩

set_option maxHeartbeats 800000 in
theorem fixedSteps_any (w : World) :
    Calls Tryd.prog 77 #[] w fun e w' => ∃ g, e = .returned (.slice (some ⟨g, 0, none⟩) 32 32) ∧ w.heap.size ≤ g ∧ Row w' g zfb ∧ Below w.heap.size w w' := by
  have HR := hid (fun u => rep_any u 32 5 (by omega) (by omega))
  go_enter Tryd.func77, Tryd.ntmps77
  go_wp2_with (go_at_call 104; refine (HR.out _).mono ?_; rintro e w1 ⟨g, rfl, hg, hR, hB⟩)
  go_ret
  exact ⟨g, rfl, hg, hR, hB⟩
end Go.Proofs.YthdmjmnkhlpnnaaDoor

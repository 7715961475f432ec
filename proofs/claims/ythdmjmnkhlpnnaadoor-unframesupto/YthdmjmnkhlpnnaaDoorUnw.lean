/-
  The law of Unframe: the program's answer and the document's are the same.
-/
import Derived.Test.YthdmjmnkhlpnnaaDoorRuf
namespace Go.Proofs.YthdmjmnkhlpnnaaDoor
open Go.RowKit

set_option maxHeartbeats 800000 in
theorem unframes_walk (s : ByteArray) (m : Int) (w : World) (hs : s.size ≤ 1048576) (hg : Glo w) (hw : 1 < w.heap.size) :
    Calls Tryd.prog 4 #[.string s, .int .i64 m] w fun e w' => e = .returned (.bool true) ∧ Below w.heap.size w w' := by
  have HI := hid (unframe_any w s m hs hg hw)
  obtain ⟨A, hA⟩ : ∃ A, A = (ufF s (max m 0)).1 := ⟨_, rfl⟩
  obtain ⟨E, hE⟩ : ∃ E, E = (ufF s (max m 0)).2 := ⟨_, rfl⟩
  have HR : Hid (∀ u : World, Calls Tryd.prog 10 #[.string s, .int .i64 m] u fun e w' => e = .returned (.tuple #[.string A, .int .i64 E]) ∧ Below u.heap.size u w') := fun u => by rw [hA, hE]; exact runframe_any u s m hs
  rw [← hA, ← hE] at HI
  clear hA hE hg
  go_enter Tryd.func4, Tryd.ntmps4
  go_wp2_with (first | (go_at_call 9; refine HI.out.mono ?_; rintro e w1 ⟨rfl, hb1⟩) | (go_at_call 10; refine (HR.out _).mono ?_; rintro e w2 ⟨rfl, hb2⟩) | (go_at_call 8; refine (num_any _ _).mono ?_; rintro e w3 ⟨rfl, rfl⟩))
  go_ret
  exact ⟨rfl, hb1.trans (hb2.mono hb1.size)⟩
end Go.Proofs.YthdmjmnkhlpnnaaDoor

/-
  The document's reader: letters and steps when something is wrong already.
-/
import Derived.Test.YthdmjmnkhlpnnaaDoorRcd
namespace Go.Proofs.YthdmjmnkhlpnnaaDoor
open Go.RowKit

set_option maxRecDepth 20000 in
set_option maxHeartbeats 1600000 in
theorem rcoded_err (w : World) (B : Nat) (s : ByteArray) (p : Nat) (tv : Value) (t : List UInt8) (M : Int) (E : Nat) (f m a f' m' a' : Nat → Int) (so so' : Option Addr) (n c n' c' : Nat) (h : Rf w B s p tv t M E) (hE : E ≠ 0) :
    Calls Tryd.prog 21 #[.pointer (some ⟨B, 0, none⟩), .agg (cd4 f m a (.slice so n c)), .agg (cd4 f' m' a' (.slice so' n' c'))] w fun e w' => e = .returned (.tuple #[]) ∧ Rf w' B s p tv t M E ∧ Kp 42 B w w' := by
  have hlt := h.lt
  obtain ⟨oa, hA⟩ : ∃ o : Obj, o = Obj.cells (cd4 f m a (.slice so n c)) 47 := ⟨_, rfl⟩
  obtain ⟨ob, hB⟩ : ∃ o : Obj, o = Obj.cells (cd4 f' m' a' (.slice so' n' c')) 47 := ⟨_, rfl⟩
  have HR0 := hid ((h.alloc oa).alloc ob)
  have HK0 : Hid (Kp 42 B w ((w.alloc oa).alloc ob)) := ((Kp.refl _ _ _).alloc (Nat.le_of_lt hlt) oa).alloc (by simp; omega) ob
  have hb0 : ((E : Int) == 0) = false := by rw [beq_eq_false_iff_ne]; omega
  have e4 := HR0.out.cell.2.2.2.2.1
  clear h
  go_enter Tryd.func21, Tryd.ntmps21
  go_wp2
  rw [← hA, ← hB]
  clear hA hB
  go_loopw [6] (fun _ wr => wr = (w.alloc oa).alloc ob) (fun _ _ => 0)
  case atStart => rfl
  case round =>
    obtain rfl := hrel
    go_wp2
    go_end0
    exact ⟨rfl, HR0.out, HK0.out⟩
end Go.Proofs.YthdmjmnkhlpnnaaDoor

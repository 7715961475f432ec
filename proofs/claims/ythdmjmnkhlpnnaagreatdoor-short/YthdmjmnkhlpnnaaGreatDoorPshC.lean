/-
  Plain: one byte again and again is packed short, if it is less than a block.
-/
import Derived.Test.YthdmjmnkhlpnnaaGreatDoorZ34
namespace Go.Proofs.YthdmjmnkhlpnnaaGreatDoor

theorem Dfl.short {lv : Nat} {t o : List UInt8} (h : Dfl lv t o) (h1 : 1 ≤ lv) (c : UInt8) (hc : ∀ x, x ∈ t → x = c) (hn : t.length < 65535) : o.length ≤ 32 + t.length / 100 := by
  obtain ⟨V, L, t1, u, ps, hw, rfl, hb, hV, hL, m, hm, -, h16⟩ := h.st
  rw [List.length_append] at hn ⊢
  have hm0 : m = 0 := by omega
  subst hm0
  have ha := hb.al h1 c hc
  have h4 : lft (L + pl ps) ≤ 7 := by unfold lft; omega
  omega
end Go.Proofs.YthdmjmnkhlpnnaaGreatDoor

/-
  What Inflate answers.
-/
import Derived.Test.YthdmjmnkhlpnnaaGreatDoorZ15
import Derived.Test.YthdmjmnkhlpnnaaGreatDoorZ13
namespace Go.Proofs.YthdmjmnkhlpnnaaGreatDoor

/-- what Inflate answers -/
def ou (s : ByteArray) (M : Int) : ByteArray × Nat × Nat :=
  match inF s M with
  | .ok p t => (⟨t.toArray⟩, (p + 7) / 8, 0)
  | .no e t => if e = 1 then (⟨t.toArray⟩, 0, 1) else (⟨#[]⟩, 0, e)
end Go.Proofs.YthdmjmnkhlpnnaaGreatDoor

/-
  Plain: what is packed is read back; cut.
-/
namespace Go.Proofs.YthdmjmnkhlpnnaaGreatDoor

theorem ba_ext {a b : ByteArray} (h : a.data.toList = b.data.toList) : a = b := ByteArray.ext (Array.toList_inj.1 h)
theorem ba_app (a b : ByteArray) : (a ++ b).data.toList = a.data.toList ++ b.data.toList := by rw [ByteArray.data_append, Array.toList_append]
theorem ba_ext_list (a : ByteArray) (i j : Nat) : (a.extract i j).data.toList = (a.data.toList.take j).drop i := by
  rw [ByteArray.data_extract, Array.toList_extract]
  exact List.extract_eq_drop_take'
theorem ba_of (l : List UInt8) : (⟨l.toArray⟩ : ByteArray).data.toList = l := rfl
theorem ba_self (a : ByteArray) : a = ⟨a.data.toList.toArray⟩ := ba_ext (by simp)
theorem ba_size (l : List UInt8) : (⟨l.toArray⟩ : ByteArray).size = l.length := by show l.toArray.size = _; simp
theorem lft_div {q n : Nat} (h : 8 * n = q + lft q) : (q + 7) / 8 = n := by unfold lft at h; omega
/-- Inflate of what Deflate gave, whatever comes behind -/
theorem Dfl.ou {lv : Nat} {t o : List UInt8} (h : Dfl lv t o) (x : List UInt8) (M : Int) (hM : (t.length : Int) ≤ M) : ou ⟨(o ++ x).toArray⟩ M = (⟨t.toArray⟩, o.length, 0) := by
  obtain ⟨q, hq, hl, h0⟩ := h.reads x M hM
  unfold Go.Proofs.YthdmjmnkhlpnnaaGreatDoor.ou
  rw [hq]
  simp only
  rw [lft_div hl]
theorem Dfl.ne {lv : Nat} {t o : List UInt8} (h : Dfl lv t o) : 0 < o.length := by
  obtain ⟨q, hq, hl, h0⟩ := h.reads [] t.length (Int.le_refl _)
  omega
/-- a beginning of it, but not all of it -/
theorem Dfl.cut {lv : Nat} {t o : List UInt8} (h : Dfl lv t o) (c : Nat) (hc : c < o.length) : ∃ t', Go.Proofs.YthdmjmnkhlpnnaaGreatDoor.ou ⟨(o.take c).toArray⟩ t.length = (⟨t'.toArray⟩, 0, 1) ∧ t' <+: t := by
  obtain ⟨q, hq, hl, h0⟩ := h.reads [] t.length (Int.le_refl _)
  rw [List.append_nil] at hq
  have hb : Beg ⟨(o.take c).toArray⟩ ⟨o.toArray⟩ := ⟨by rw [ba_size, ba_size, List.length_take]; omega, fun i hi => by
    rw [ba_size, List.length_take] at hi
    unfold byu
    rw [ba_of, ba_of, List.getD_eq_getElem?_getD, List.getD_eq_getElem?_getD, List.getElem?_take, if_pos (by omega)]⟩
  obtain ⟨t', h1, h2⟩ := inF_cut hb hq (by rw [ba_size, List.length_take]; unfold lft at hl; omega)
  refine ⟨t', ?_, h2⟩
  unfold Go.Proofs.YthdmjmnkhlpnnaaGreatDoor.ou
  rw [h1]
  rfl
/-- less room than the text needs -/
theorem Dfl.room {lv : Nat} {t o : List UInt8} (h : Dfl lv t o) (M : Int) (h0 : 0 ≤ M) (hM : M < t.length) : Go.Proofs.YthdmjmnkhlpnnaaGreatDoor.ou ⟨o.toArray⟩ M = (⟨#[]⟩, 0, 6) := by
  obtain ⟨q, hq, -, -⟩ := h.reads [] t.length (Int.le_refl _)
  rw [List.append_nil] at hq
  obtain ⟨t', h1⟩ := inF_room hq h0 hM
  unfold Go.Proofs.YthdmjmnkhlpnnaaGreatDoor.ou
  rw [h1]
  rfl
end Go.Proofs.YthdmjmnkhlpnnaaGreatDoor

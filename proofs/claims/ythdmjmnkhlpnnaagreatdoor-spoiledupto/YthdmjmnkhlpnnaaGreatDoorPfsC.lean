/-
  Plain: frames that are spoiled.
-/
import Derived.Test.YthdmjmnkhlpnnaaGreatDoorZ34
namespace Go.Proofs.YthdmjmnkhlpnnaaGreatDoor
open Go.RowKit

theorem num4_back (y : List UInt8) (h : y.length = 4) (n : Nat) (e : num4 ⟨y.toArray⟩ 4 = n) : y = be4 n := by
  match y, h with
  | [a, b, c, d], _ =>
    have ha := a.toNat_lt
    have hb := b.toNat_lt
    have hc := c.toNat_lt
    have hd := d.toNat_lt
    simp only [num4, byt, List.getD_cons_zero, List.getD_cons_succ] at e
    simp only [be4, List.cons.injEq, and_true]
    refine ⟨?_, ?_, ?_, ?_⟩ <;> (apply UInt8.toNat_inj.1; rw [UInt8.toNat_ofNat']; omega)
/-- another sum -/
theorem en_other (y t : List UInt8) (h : y.length = 4) (hne : y ≠ be4 (adS t)) : enF ⟨y.toArray⟩ ⟨t.toArray⟩ = 8 := by
  unfold enF
  rw [ba_size, if_neg (by omega), if_neg (fun e => hne (num4_back y h _ e))]
theorem en_short (y t : List UInt8) (h : y.length < 4) : enF ⟨y.toArray⟩ ⟨t.toArray⟩ = 1 := by
  unfold enF
  rw [ba_size, if_pos h]
/-- what Unframe answers where the blocks tell the text: only what stands behind them counts -/
theorem unf_err {lv : Nat} {S : ByteArray} {o : List UInt8} (h : Dfl lv S.data.toList o) (y : List UInt8) (F : ByteArray) (hF : F.data.toList = [120, 156] ++ (o ++ y)) (n : Nat) (hn : enF ⟨y.toArray⟩ ⟨S.data.toList.toArray⟩ = n) (h0 : n ≠ 0) (u : World) (hg : Glo u) (hz : F.size ≤ 4194304) :
    Calls Tryz.prog 17 #[.string F, .int .i64 S.size] u fun e w' => e = .returned (.tuple #[.string ⟨#[]⟩, .int .i64 n]) ∧ Below u.heap.size u w' := by
  have e1 : F = ⟨([120, 156] ++ (o ++ y)).toArray⟩ := ba_ext (by rw [hF, ba_of])
  have h2 := h.uf y S.size (by rw [szl]; omega)
  rw [← e1, hn, if_pos h0] at h2
  refine (unframe_any u F S.size hz hg (cell_in (hg 0 (by omega)))).mono fun e w' ⟨h3, h4⟩ => ⟨?_, h4⟩
  rw [h3, show max (S.size : Int) 0 = S.size by omega, h2]
/-- the list of a frame -/
theorem fr_list {S F : ByteArray} {o : List UInt8} (hF : F = ⟨#[120, 156]⟩ ++ ⟨o.toArray⟩ ++ ⟨(be4 (adS S.data.toList)).toArray⟩) : F.data.toList = [120, 156] ++ (o ++ be4 (adS S.data.toList)) ∧ F.size = o.length + 6 := by
  have e : F.data.toList = [120, 156] ++ (o ++ be4 (adS S.data.toList)) := by
    rw [hF, ba_app, ba_app, ba_of, ba_of, List.append_assoc]
  refine ⟨e, ?_⟩
  rw [← szl, e]
  simp [be4]
theorem set_tail (o y : List UInt8) (j : Nat) (v : UInt8) : ([120, 156] ++ (o ++ y)).set (2 + (o.length + j)) v = [120, 156] ++ (o ++ y.set j v) := by
  rw [show 2 + (o.length + j) = o.length + j + 1 + 1 by omega]
  show 120 :: 156 :: (o ++ y).set (o.length + j) v = 120 :: 156 :: (o ++ y.set j v)
  rw [List.set_append, if_neg (by omega), Nat.add_sub_cancel_left]
end Go.Proofs.YthdmjmnkhlpnnaaGreatDoor

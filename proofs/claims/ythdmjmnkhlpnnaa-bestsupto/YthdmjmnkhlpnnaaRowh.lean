/-
  What codes.row does: all parcels of two lists in one heap.
-/
import Derived.Test.YthdmjmnkhlpnnaaSingles
namespace Go.Proofs.Ythdmjmnkhlpnnaa
open Go.RowKit

/-- a value is a list of parcels -/
def Pars (w : World) (v : Value) (ps : List Pc) : Prop :=
  ∃ ao c, v = .slice ao ps.length c ∧ ps.length ≤ c ∧ (0 < ps.length → ∃ g cur, ao = some ⟨g, 0, none⟩ ∧ w.heap[g]? = some (.cells cur 58 (0, 0)) ∧ cur.toList.take (ps.length * 2) = flat ps)
theorem Pars.own {w : World} {base : Nat} {v : Value} {ps : List Pc} (h : w.ownsRow base 58 2 v ps.length (flat ps)) : Pars w v ps := by
  rcases h.2 with ⟨e, h0⟩ | ⟨g, cap, cur, e, hb, hg, hnc, hcm, hcs, ht⟩
  · exact ⟨none, 0, by rw [e, h0], by omega, fun h => by omega⟩
  · exact ⟨some ⟨g, 0, none⟩, cap, e, hnc, fun _ => ⟨g, cur, rfl, hg, ht⟩⟩
theorem Pars.below {w w' : World} {v : Value} {ps : List Pc} (h : Pars w v ps) (hb : Below w.heap.size w w') : Pars w' v ps := by
  obtain ⟨ao, c, e, hc, h⟩ := h
  refine ⟨ao, c, e, hc, fun h0 => ?_⟩
  obtain ⟨g, cur, e1, hg, ht⟩ := h h0
  exact ⟨g, cur, e1, by rw [hb.block g (Array.getElem?_eq_some_iff.1 hg).1]; exact hg, ht⟩

theorem take_pc (ps : List Pc) (k : Nat) (h : k < ps.length) : ps.take (k + 1) = ps.take k ++ [ps.getD k Pc.zero] := by
  rw [List.take_succ_eq_append_getElem h]; simp [List.getD, h]
theorem perm_put {ps rs rs' : List Pc} {k : Nat} (h : k < ps.length) {qs : List Pc} (h1 : rs.Perm (qs ++ ps.take k)) (h2 : rs'.Perm (ps.getD k Pc.zero :: rs)) : rs'.Perm (qs ++ ps.take (k + 1)) := by
  rw [take_pc ps k h, ← List.append_assoc]
  exact (h2.trans (List.Perm.cons _ h1)).trans (List.perm_append_comm (l₁ := [ps.getD k Pc.zero]))

theorem puts_put {ps rs rs' qs : List Pc} {k : Nat} (h : k < ps.length) (h1 : PutsP [] (qs ++ ps.take k) rs) (h2 : RiseP (rs ++ [ps.getD k Pc.zero]) rs.length rs') : PutsP [] (qs ++ ps.take (k + 1)) rs' := by
  rw [take_pc ps k h, ← List.append_assoc]
  exact h1.snoc _ _ h2

set_option maxRecDepth 20000 in
set_option maxHeartbeats 2000000 in
theorem row_any {w : World} {v1 v2 : Value} {ps qs : List Pc} (h1 : Pars w v1 ps) (h2 : Pars w v2 qs) (hp : ps.length ≤ 10000) (hq : qs.length ≤ 10000) :
    Calls Try.prog 41 #[v1, v2] w fun e w' => ∃ iv rs, e = .returned (.pointer (some ⟨w.heap.size, 0, none⟩)) ∧ Heap w' w.heap.size iv rs ∧ rs.Perm (ps ++ qs) ∧ HO rs ∧ Below w.heap.size w w' ∧ PutsP [] (ps ++ qs) rs := by
  obtain ⟨ao1, c1, rfl, _, h1⟩ := h1
  obtain ⟨ao2, c2, rfl, _, h2⟩ := h2
  have H1 := hid h1
  have H2 := hid h2
  clear h1 h2
  go_enter Try.func41, Try.ntmps41
  go_wp2_with (go_at_call 45; refine (new_any _).mono ?_; rintro e w1 ⟨rfl, hh, hb⟩; have HH := hid hh; have HB := hid hb; clear hh hb)
  go_loopw [13] (fun i wr => ∃ (k : Nat) (iv : Value) (rs : List Pc), k ≤ ps.length ∧ i = .int .i64 k ∧ Hid (Heap wr w.heap.size iv rs ∧ rs.Perm ([] ++ ps.take k) ∧ HO rs ∧ Below w.heap.size w wr ∧ PutsP [] ([] ++ ps.take k) rs)) (fun i _ => ps.length - (intOf i).toNat)
  case atStart => exact ⟨0, _, [], by omega, rfl, HH.out, List.Perm.refl _, fun k _ kl => by simp at kl, HB.out, rfl⟩
  case round =>
    clear HH HB
    obtain ⟨k, iv, rs, hk, rfl, HS⟩ := hrel
    by_cases hlt : k < ps.length
    · obtain ⟨g, cur, rfl, hg, ht⟩ := H1.out (by omega)
      obtain ⟨x1, x2, _, _⟩ := row_get hg ht hlt
      have hgl : g < w.heap.size := (Array.getElem?_eq_some_iff.1 hg).1
      have y1 := (HS.out.2.2.2.1.cell (p := ⟨g, k * 2, none⟩) hgl).trans x1
      have y2 := (HS.out.2.2.2.1.cell (p := ⟨g, k * 2 + 1, none⟩) hgl).trans x2
      have hlr : rs.length ≤ 10000 := by have := HS.out.2.1.length_eq; simp at this; omega
      obtain ⟨p, hpe⟩ : ∃ p, p = ps.getD k Pc.zero := ⟨_, rfl⟩
      rw [← hpe] at y1 y2
      have HP := hid hpe
      clear hpe x1 x2 hg ht
      go_wp2_with (go_at_call 47; refine (put_any (HS.out.1.below ((Below.refl _ _).alloc (Nat.le_refl _) _)) HS.out.2.2.1 (by omega) p).mono ?_; rintro e w2 ⟨rfl, iv', rs', hh2, hp2, ho2, hb2, hri2⟩; have HR := hid (show _ ∧ _ ∧ _ ∧ _ ∧ _ from ⟨hh2, hp2, ho2, hb2, hri2⟩); clear hh2 hp2 ho2 hb2 hri2)
      go_roundw
      case rel =>
        refine ⟨k + 1, iv', rs', by omega, by go_num, HR.out.1, ?_, HR.out.2.2.1, ?_, ?_⟩
        · exact perm_put hlt HS.out.2.1 (by rw [← HP.out]; exact HR.out.2.1)
        · exact (HS.out.2.2.2.1.alloc HS.out.2.2.2.1.size _).trans HR.out.2.2.2.1
        · exact puts_put hlt HS.out.2.2.2.2 (by rw [← HP.out]; exact HR.out.2.2.2.2)
      case measure => simp [intOf]; omega
    · have HS2 : Hid (Heap wr w.heap.size iv rs ∧ rs.Perm ps ∧ HO rs ∧ Below w.heap.size w wr ∧ PutsP [] ps rs) := by
        have h := HS.out
        rw [List.take_of_length_le (by omega)] at h
        exact h
      clear HS
      go_wp2
      go_loopw [23] (fun i wr => ∃ (k : Nat) (iv : Value) (rs : List Pc), k ≤ qs.length ∧ i = .int .i64 k ∧ Hid (Heap wr w.heap.size iv rs ∧ rs.Perm (ps ++ qs.take k) ∧ HO rs ∧ Below w.heap.size w wr ∧ PutsP [] (ps ++ qs.take k) rs)) (fun i _ => qs.length - (intOf i).toNat)
      case atStart => exact ⟨0, _, rs, by omega, rfl, HS2.out.1, by simpa using HS2.out.2.1, HS2.out.2.2.1, HS2.out.2.2.2.1, by simpa using HS2.out.2.2.2.2⟩
      case round =>
        clear HS2
        obtain ⟨k, iv, rs, hk, rfl, HS⟩ := hrel
        by_cases hlt : k < qs.length
        · obtain ⟨g, cur, rfl, hg, ht⟩ := H2.out (by omega)
          obtain ⟨x1, x2, _, _⟩ := row_get hg ht hlt
          have hgl : g < w.heap.size := (Array.getElem?_eq_some_iff.1 hg).1
          have y1 := (HS.out.2.2.2.1.cell (p := ⟨g, k * 2, none⟩) hgl).trans x1
          have y2 := (HS.out.2.2.2.1.cell (p := ⟨g, k * 2 + 1, none⟩) hgl).trans x2
          have hlr : rs.length ≤ 20000 := by have := HS.out.2.1.length_eq; simp at this; omega
          obtain ⟨p, hpe⟩ : ∃ p, p = qs.getD k Pc.zero := ⟨_, rfl⟩
          rw [← hpe] at y1 y2
          have HP := hid hpe
          clear hpe x1 x2 hg ht
          go_wp2_with (go_at_call 47; refine (put_any (HS.out.1.below ((Below.refl _ _).alloc (Nat.le_refl _) _)) HS.out.2.2.1 (by omega) p).mono ?_; rintro e w2 ⟨rfl, iv', rs', hh2, hp2, ho2, hb2, hri2⟩; have HR := hid (show _ ∧ _ ∧ _ ∧ _ ∧ _ from ⟨hh2, hp2, ho2, hb2, hri2⟩); clear hh2 hp2 ho2 hb2 hri2)
          go_roundw
          case rel =>
            refine ⟨k + 1, iv', rs', by omega, by go_num, HR.out.1, ?_, HR.out.2.2.1, ?_, ?_⟩
            · exact perm_put hlt HS.out.2.1 (by rw [← HP.out]; exact HR.out.2.1)
            · exact (HS.out.2.2.2.1.alloc HS.out.2.2.2.1.size _).trans HR.out.2.2.2.1
            · exact puts_put hlt HS.out.2.2.2.2 (by rw [← HP.out]; exact HR.out.2.2.2.2)
          case measure => simp [intOf]; omega
        · have HS3 : Hid (Heap wr w.heap.size iv rs ∧ rs.Perm (ps ++ qs) ∧ HO rs ∧ Below w.heap.size w wr ∧ PutsP [] (ps ++ qs) rs) := by
            have h := HS.out
            rw [List.take_of_length_le (l := qs) (by omega)] at h
            exact h
          go_wp2
          go_ret
          exact ⟨iv, rs, rfl, HS3.out⟩
end Go.Proofs.Ythdmjmnkhlpnnaa

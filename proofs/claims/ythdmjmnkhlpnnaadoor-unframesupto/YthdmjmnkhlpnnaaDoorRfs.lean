/-
  The document's own reader in memory: its stop, bit, number, put.
-/
import Derived.Test.YthdmjmnkhlpnnaaDoorAgain
import Derived.Test.YthdmjmnkhlpnnaaDoorRef
namespace Go.Proofs.YthdmjmnkhlpnnaaDoor
open Go.RowKit

/-- the document's reader -/
structure Rf (w : World) (B : Nat) (s : ByteArray) (p : Nat) (tv : Value) (t : List UInt8) (M : Int) (E : Nat) : Prop where
  blk : ∃ far : Int, w.heap[B]? = some (.cells #[.string s, .int .i64 (p : Int), tv, .int .i64 M, .int .i64 (E : Int), .int .i64 far] 42 (0, 0))
  own : w.ownsRow (B + 1) 5 1 tv t.length (bys t)
  sml : s.size ≤ 1048576
  fit : p ≤ 8 * s.size
  len : (t.length : Int) ≤ M
  rom : t.length ≤ 258 * p
variable {w w' : World} {B : Nat} {s : ByteArray} {p : Nat} {tv : Value} {t : List UInt8} {M : Int} {E : Nat}
theorem Rf.lt (h : Rf w B s p tv t M E) : B < w.heap.size := by
  obtain ⟨far, hb⟩ := h.blk
  exact (Array.getElem?_eq_some_iff.1 hb).1
theorem Rf.cell (h : Rf w B s p tv t M E) :
    w.cell? ⟨B, 0, none⟩ = some (.string s) ∧ w.cell? ⟨B, 1, none⟩ = some (.int .i64 (p : Int)) ∧ w.cell? ⟨B, 2, none⟩ = some tv ∧ w.cell? ⟨B, 3, none⟩ = some (.int .i64 M) ∧ w.cell? ⟨B, 4, none⟩ = some (.int .i64 (E : Int)) ∧ ∃ far, w.cell? ⟨B, 5, none⟩ = some (.int .i64 far) := by
  obtain ⟨far, hb⟩ := h.blk
  have e := fun j => cell_of_row w B j _ 42 (0, 0) hb
  exact ⟨by rw [e]; rfl, by rw [e]; rfl, by rw [e]; rfl, by rw [e]; rfl, by rw [e]; rfl, far, by rw [e]; rfl⟩
theorem Rf.free (h : Rf w B s p tv t M E) (j : Nat) : w.frozen? ⟨B, j, none⟩ = false := by
  obtain ⟨far, hb⟩ := h.blk
  simp [World.frozen?, hb]
theorem Rf.drewN (h : Rf w B s p tv t M E) (n : Nat) : Rf (w.drewN n) B s p tv t M E := ⟨h.blk, h.own, h.sml, h.fit, h.len, h.rom⟩
theorem Rf.drew (h : Rf w B s p tv t M E) : Rf w.drew B s p tv t M E := ⟨h.blk, h.own, h.sml, h.fit, h.len, h.rom⟩
theorem Rf.below (h : Rf w B s p tv t M E) (hb : Below w.heap.size w w') : Rf w' B s p tv t M E := by
  obtain ⟨far, hbk⟩ := h.blk
  refine ⟨⟨far, (hb.block B h.lt).trans hbk⟩, ?_, h.sml, h.fit, h.len, h.rom⟩
  obtain ⟨h1, h2⟩ := h.own
  refine ⟨h1, ?_⟩
  rcases h2 with h2 | ⟨g, cap, cur, hv, hg, hh, r⟩
  · exact Or.inl h2
  · exact Or.inr ⟨g, cap, cur, hv, hg, (hb.block g (Array.getElem?_eq_some_iff.1 hh).1).trans hh, r⟩
theorem Rf.alloc (h : Rf w B s p tv t M E) (o : Obj) : Rf (w.alloc o) B s p tv t M E := h.below ((Below.refl _ _).alloc (Nat.le_refl _) o)
theorem Rf.shape (h : Rf w B s p tv t M E) : ∃ ao c, tv = .slice ao t.length c := by
  obtain ⟨_, ⟨rfl, h0⟩ | ⟨g, cap, cur, rfl, _⟩⟩ := h.own
  · exact ⟨none, 0, by rw [h0]⟩
  · exact ⟨_, _, rfl⟩
theorem Rf.byte (h : Rf w B s p tv t M E) (i : Nat) (hi : i < t.length) :
    ∃ g c, tv = .slice (some ⟨g, 0, none⟩) t.length c ∧ w.cell? ⟨g, i, none⟩ = some (.int .u8 (t.getD i 0).toNat) := by
  obtain ⟨_, ⟨rfl, h0⟩ | ⟨g, cap, cur, rfl, hg, hh, h1, h2, h3, h4⟩⟩ := h.own
  · omega
  · refine ⟨g, cap, rfl, ?_⟩
    rw [cell_of_row w g i cur 5 (0, 0) hh]
    have e : cur.toList[i]? = (bys t)[i]? := by rw [← h4, List.getElem?_take, if_pos (by omega)]
    rw [← Array.getElem?_toList, e]
    simp [bys, hi]
/-- where it stands, in memory -/
def posR (w : World) (B : Nat) : Nat := (intOf ((w.cell? ⟨B, 1, none⟩).getD (.int .i64 0))).toNat
theorem Rf.pos (h : Rf w B s p tv t M E) : posR w B = p := by
  obtain ⟨-, c1, -⟩ := h.cell
  unfold posR
  rw [c1]
  simp [intOf]
/-- the error is set -/
theorem Rf.setE (h : Rf w B s p tv t M E) (e : Nat) : Rf (w.setCell ⟨B, 4, none⟩ (.int .i64 (e : Int))) B s p tv t M e := by
  obtain ⟨far, hb⟩ := h.blk
  exact ⟨⟨far, by rw [blk_set hb]; rfl⟩, own_set h.own rfl _, h.sml, h.fit, h.len, h.rom⟩
/-- it stands farther on -/
theorem Rf.setAt (h : Rf w B s p tv t M E) (q : Nat) (hq : p ≤ q) (hf : q ≤ 8 * s.size) : Rf (w.setCell ⟨B, 1, none⟩ (.int .i64 (q : Int))) B s q tv t M E := by
  obtain ⟨far, hb⟩ := h.blk
  exact ⟨⟨far, by rw [blk_set hb]; rfl⟩, own_set h.own rfl _, h.sml, hf, h.len, by have := h.rom; omega⟩
theorem Rf.setFar (h : Rf w B s p tv t M E) (f : Int) : Rf (w.setCell ⟨B, 5, none⟩ (.int .i64 f)) B s p tv t M E := by
  obtain ⟨far, hb⟩ := h.blk
  exact ⟨⟨f, by rw [blk_set hb]; rfl⟩, own_set h.own rfl _, h.sml, h.fit, h.len, h.rom⟩
theorem Kp.setRf {a : World} (hk : Kp 42 B a w) (h : Rf w B s p tv t M E) (j : Nat) (u : Value) : Kp 42 B a (w.setCell ⟨B, j, none⟩ u) := by
  obtain ⟨far, hb⟩ := h.blk
  exact hk.setCell hb rfl u

set_option maxHeartbeats 400000 in
theorem stop_any (w : World) (B : Nat) (s : ByteArray) (p : Nat) (tv : Value) (t : List UInt8) (M : Int) (e : Nat) (h : Rf w B s p tv t M 0) :
    Calls Tryd.prog 23 #[.pointer (some ⟨B, 0, none⟩), .int .i64 e] w fun r w' => r = .returned (.tuple #[]) ∧ Rf w' B s p tv t M e ∧ Kp 42 B w w' := by
  obtain ⟨-, -, -, -, c4, -⟩ := h.cell
  have f4 := h.free 4
  have HR := hid h
  clear h
  go_enter Tryd.func23, Tryd.ntmps23
  go_wp2
  go_end0
  exact ⟨rfl, HR.out.setE e, (Kp.refl _ _ _).setRf HR.out _ _⟩

theorem bit_ref (s : ByteArray) (p : Nat) (x : Nat) (hx : x = p / 8) (h : x < s.size) : (s[x].toNat : Int) / (2 ^ (p % 8) : Nat) % 2 = (bitAt s p : Int) := by
  unfold bitAt
  rw [← hx, byt_get s x h]
  push_cast
  rfl

set_option maxHeartbeats 800000 in
theorem rbit_ok (w : World) (B : Nat) (s : ByteArray) (p : Nat) (tv : Value) (t : List UInt8) (M : Int) (h : Rf w B s p tv t M 0) (hp : p < 8 * s.size) :
    Calls Tryd.prog 17 #[.pointer (some ⟨B, 0, none⟩)] w fun e w' => e = .returned (.int .i64 (bitAt s p)) ∧ Rf w' B s (p + 1) tv t M 0 ∧ Kp 42 B w w' := by
  obtain ⟨c0, c1, -, -, c4, -⟩ := h.cell
  have f1 := h.free 1
  have HR := hid h
  have hs := h.sml
  clear h
  obtain ⟨x, hx⟩ : ∃ x, x = p / 8 := ⟨_, rfl⟩
  have hxs : x < s.size := by omega
  obtain ⟨y, hy⟩ : ∃ y, y = p % 8 := ⟨_, rfl⟩
  have q1 : (p : Int) / 8 = (x : Int) := by omega
  have q2 : (p : Int) % 8 = (y : Int) := by omega
  have hpw := pow_le15 y (by omega)
  obtain ⟨P, hP⟩ : ∃ P : Nat, P = 2 ^ y := ⟨_, rfl⟩
  have hP1 : 1 ≤ P := by omega
  have hP0 : ¬ (P : Int) = 0 := by omega
  have HB : Hid ((s[x].toNat : Int) / (P : Int) % 2 = (bitAt s p : Int)) := by
    show _ = _
    rw [hP, hy]
    exact bit_ref s p x hx hxs
  have HPW : Hid (∀ u : World, Calls Tryd.prog 35 #[.int .i64 (y : Int)] u fun e w' => e = .returned (.int .i64 (P : Int)) ∧ w' = u) := fun u => (power_any (y : Int) u (by omega) (by omega)).mono fun e w' ⟨h1, h2⟩ => ⟨by rw [h1, hP]; simp, h2.symm⟩
  have hby := UInt8.toNat_lt s[x]
  have hdl : (s[x].toNat : Int) / (P : Int) ≤ (s[x].toNat : Int) := Int.ediv_le_self _ (by omega)
  have hd0 : 0 ≤ (s[x].toNat : Int) / (P : Int) := Int.ediv_nonneg (by omega) (by omega)
  have wx : IntKind.i64.wrap (x : Int) = x := by rw [IntKind.wrap_i64]; omega
  have wb : IntKind.i64.wrap (s[x].toNat : Int) = (s[x].toNat : Int) := by rw [IntKind.wrap_i64]; omega
  have wq : IntKind.i64.wrap ((s[x].toNat : Int) / (P : Int)) = (s[x].toNat : Int) / (P : Int) := by rw [IntKind.wrap_i64]; omega
  have q3 : (p : Int).tmod 8 = (y : Int) := by rw [Int.tmod_eq_emod_of_nonneg (by omega)]; omega
  obtain ⟨d, hd⟩ : ∃ d : Nat, d = bitAt s p := ⟨_, rfl⟩
  have td : (s[x].toNat : Int).tdiv (P : Int) = (s[x].toNat : Int) / (P : Int) := Int.tdiv_eq_ediv_of_nonneg (by omega)
  have tm : ((s[x].toNat : Int) / (P : Int)).tmod 2 = (d : Int) := by rw [Int.tmod_eq_emod_of_nonneg hd0, HB.out, hd]
  have tm2 : ((s[x].toNat : Int) / (P : Int)) % 2 = (d : Int) := by rw [HB.out, hd]
  have HD := hid hd
  rw [← hd]
  clear hx hy hpw hP hd
  go_enter Tryd.func17, Tryd.ntmps17
  go_wp2
  go_quiet (fail)
  go_wp2
  have HK : Hid (Kp 42 B w (w.drewN nq)) := (Kp.refl _ _ _).drewN _
  have HRW := HR.out.drewN nq
  clear c0 c1 c4 f1
  generalize w.drewN nq = W at HRW HK ⊢
  obtain ⟨c0, c1, -, -, c4, -⟩ := HRW.cell
  have f1 := HRW.free 1
  have HW := hid HRW
  clear HRW HR
  go_quiet ((go_at_call 35; refine Calls.quiet_of_same (HPW.out _)))
  go_wp2
  go_ret
  exact ⟨rfl, (HW.out.drewN _).setAt (p + 1) (by omega) (by omega), (HK.out.drewN _).setRf (HW.out.drewN _) _ _⟩
end Go.Proofs.YthdmjmnkhlpnnaaDoor

/-
  The walk of balekeep.Free.
-/
import Derived.Test.YthdmjmnkhlpnnaaBlen
import Derived.BigQuiet
import Derived.Deep.DeepCutAuto
namespace Go.Proofs.Ythdmjmnkhlpnnaa
open Go.RowKit

/-- the counts that Free draws out of raw numbers -/
def drawn (raw : List Int) : List Int := (raw.take 60).map fun z => pk z 1000
theorem drawn_length (raw : List Int) : (drawn raw).length = min 60 raw.length := by simp [drawn]
theorem drawn_getD (raw : List Int) (k : Nat) (h : k < raw.length) (h60 : k < 60) : (drawn raw).getD k 0 = pk (raw.getD k 0) 1000 := by
  simp [drawn, List.getD, h, h60]
theorem drawn_range (raw : List Int) (k : Nat) : 0 ≤ (drawn raw).getD k 0 ∧ (drawn raw).getD k 0 ≤ 999 := by
  by_cases h : k < raw.length ∧ k < 60
  · rw [drawn_getD raw k h.1 h.2]
    have := pk_range (raw.getD k 0) 1000 (by omega)
    omega
  · have : (drawn raw).getD k 0 = 0 := by
      have hl : ¬ k < (drawn raw).length := by rw [drawn_length]; omega
      simp [List.getD, hl]
    omega
theorem drawn_nc (raw : List Int) : (drawn raw).any nc = false := by
  cases e : (drawn raw).any nc with
  | false => rfl
  | true =>
    obtain ⟨z, hz, hn⟩ := List.any_eq_true.1 e
    obtain ⟨y, _, rfl⟩ := List.mem_map.1 hz
    have := pk_range y 1000 (by omega)
    simp [nc] at hn
    omega

theorem draw_app {cs : List Int} {w wr w1 : World} {v v' : Value} {i : Nat} {r : Int} {o : Obj} (hlt : i < cs.length) (hr : cs.getD i 0 = r)
    (hown : wr.ownsRow w.heap.size 3 1 v i ((cs.take i).map (Value.int .i64))) (hB : Below w.heap.size w wr)
    (hown' : w1.ownsRow w.heap.size 3 1 v' (i + 1) ((cs.map (Value.int .i64)).take i ++ [Value.int .i64 r])) (hg : (wr.alloc o).grownBy w1 v.ownBlock) :
    w1.ownsRow w.heap.size 3 1 v' (i + 1) ((cs.take (i + 1)).map (Value.int .i64)) ∧ Below w.heap.size w w1 := by
  refine ⟨?_, (hB.alloc hB.size o).grown hg (by have := hB.size; simp; omega) (fun k hk => (hown.lt k hk).1)⟩
  rw [take_snocI cs i hlt, hr, List.map_append, List.map_take]
  exact hown'

/-- what holds of the chosen lengths at a place -/
structure At (cs : List Int) (m : Nat) (C1 C2 : List Ab) (k : Nat) (y L W B : Int) : Prop where
  hy : cs.getD k 0 = y
  hL : (chl cs C1).getD k 0 = L
  hW : (chl cs C2).getD k 0 = W
  hB : (bts (chl cs C1)).getD k 0 = B
  same : 0 < L ↔ 0 < y
  lo : 0 ≤ L
  hi : L ≤ m
  wlo : 0 ≤ W
  whi : W ≤ m + 1
  blo : 0 ≤ B
  bhi : B < 2 ^ L.toNat
theorem at_of {cs : List Int} {m : Nat} {C1 C2 : List Ab} (h1 : 1 ≤ m) (h14 : m ≤ 14) (hf1 : (sing cs).length ≤ 2 ^ m) (hf2 : (sing cs).length ≤ 2 ^ (m + 1)) (hc : Chs (sing cs) m C1 ∧ Chs (sing cs) (m + 1) C2) {k : Nat} (hk : k < cs.length) :
    At cs m C1 C2 k (cs.getD k 0) ((chl cs C1).getD k 0) ((chl cs C2).getD k 0) ((bts (chl cs C1)).getD k 0) := by
  have a := good_of h1 hf1 hc.1
  have b := good_of (by omega) hf2 hc.2
  obtain ⟨o1, o2⟩ := chl_ok h1 (by omega) hf1 hc.1
  have hk' : k < (chl cs C1).length := by rw [chl_length]; exact hk
  have p1 := chl_getD cs C1 k hk
  have p2 := chl_getD cs C2 k hk
  have p3 := bts_getD (chl cs C1) k hk'
  have a1 : (0 < occ C1 (k : Int) ↔ 0 < cs.getD k 0) ∧ occ C1 (k : Int) ≤ m := by
    by_cases h0 : 0 < cs.getD k 0
    · have := a.some k hk h0; omega
    · have := a.none k hk (by omega); omega
  have b1 : occ C2 (k : Int) ≤ m + 1 := by
    by_cases h0 : 0 < cs.getD k 0
    · have := b.some k hk h0; omega
    · have := b.none k hk (by omega); omega
  refine ⟨rfl, rfl, rfl, rfl, ?_, ?_, ?_, ?_, ?_, ?_, ?_⟩
  · rw [p1]; omega
  · rw [p1]; omega
  · rw [p1]; omega
  · rw [p2]; omega
  · rw [p2]; omega
  · rw [p3]; omega
  · rw [p3]
    by_cases h0 : 0 < (chl cs C1).getD k 0
    · have := bt_lt o2 hk' h0 (by rw [p1]; omega)
      have e : ((2 ^ ((chl cs C1).getD k 0).toNat : Nat) : Int) = (2 : Int) ^ ((chl cs C1).getD k 0).toNat := by simp
      rw [← e]
      omega
    · have : bt (chl cs C1) k = 0 := by unfold bt; rw [if_neg h0]
      rw [this, show ((chl cs C1).getD k 0).toNat = 0 by omega]
      simp

theorem prefix_no {cs : List Int} {m : Nat} {C1 C2 : List Ab} {k t : Nat} {z L W B z' L' W' B' : Int} (hm : m ≤ 14) (hk : k < cs.length) (ht : t < cs.length) (hne : k ≠ t) (a : At cs m C1 C2 k z L W B) (b : At cs m C1 C2 t z' L' W' B') (h1 : 0 < L) (h2 : 0 < L') (w : World) :
    Calls Try.prog 14 #[.int .i64 B, .int .i64 L, .int .i64 B', .int .i64 L'] w fun e w' => e = .returned (.bool false) ∧ w' = w := by
  have a0 := a.blo
  have b0 := b.blo
  have a1 := a.hi
  have b1 := b.hi
  have b2 := b.bhi
  have hpb := pow_int L'.toNat (by omega)
  have hk' : k < (chl cs C1).length := by rw [chl_length]; exact hk
  have ht' : t < (chl cs C1).length := by rw [chl_length]; exact ht
  have eB : B.toNat = bt (chl cs C1) k := by have := a.hB; rw [bts_getD _ _ hk'] at this; omega
  have eB' : B'.toNat = bt (chl cs C1) t := by have := b.hB; rw [bts_getD _ _ ht'] at this; omega
  have h := prefix_any B.toNat L.toNat B'.toNat L'.toNat w (by omega) (by omega) (by omega)
  rw [show ((B.toNat : Nat) : Int) = B by omega, show ((L.toNat : Nat) : Int) = L by omega, show ((B'.toNat : Nat) : Int) = B' by omega, show ((L'.toNat : Nat) : Int) = L' by omega] at h
  have e : pre B.toNat L.toNat B'.toNat L'.toNat = false := by
    refine decide_eq_false fun hp => ?_
    have hn := no_prefix (zs := chl cs C1) hk' ht' hne (by rw [a.hL]; exact h1) (by rw [b.hL]; exact h2) (by rw [a.hL]; omega) (by rw [b.hL]; omega) (by rw [a.hL, b.hL]; exact hp.1)
    rw [a.hL, b.hL, ← eB, ← eB'] at hn
    exact hn hp.2
  rw [e] at h
  exact h.mono fun _ _ ⟨x, y⟩ => ⟨x, y.symm⟩
theorem free_cost {cs : List Int} {m : Nat} {C1 C2 : List Ab} (hf1 : (sing cs).length ≤ 2 ^ m) (hc : Chs (sing cs) m C1 ∧ Chs (sing cs) (m + 1) C2) :
    psum (fun i => cs.getD i 0 * (chl cs C2).getD i 0) cs.length ≤ psum (fun i => cs.getD i 0 * (chl cs C1).getD i 0) cs.length := by
  rw [psum_congr (g := fun i => cs.getD i 0 * ((occ C2 (i : Int) : Nat) : Int)) (fun i hi => by rw [chl_getD cs C2 i hi]), psum_congr (f := fun i => cs.getD i 0 * (chl cs C1).getD i 0) (g := fun i => cs.getD i 0 * ((occ C1 (i : Int) : Nat) : Int)) (fun i hi => by rw [chl_getD cs C1 i hi]), chs_cost hc.1, chs_cost hc.2]
  exact chs_mono hf1 hc.1 hc.2

set_option maxRecDepth 20000 in
set_option maxHeartbeats 4000000 in
theorem free_walk (ao : Option Addr) (c : Nat) (raw : List Int) (lim : Int) (w : World) (hs : Seg w ao raw) (hm : raw.length ≤ maxLen) (hr : ∀ z ∈ raw, -9223372036854775808 ≤ z ∧ z ≤ 9223372036854775807) (hlim : -9223372036854775808 ≤ lim ∧ lim ≤ 9223372036854775807) :
    Calls Try.prog 5 #[.slice ao raw.length c, .int .i64 lim] w fun e w' => e = .returned (.bool true) ∧ Below w.heap.size w w' := by
  obtain ⟨i0, hi, hz0, hz1, hz2⟩ := info_parts info3
  have HS := hid hs
  have HR := hid hr
  have hmm : raw.length ≤ 9223372036854775807 := by unfold maxLen at hm; omega
  have hdl : (drawn raw).length ≤ raw.length ∧ (drawn raw).length ≤ 60 ∧ (raw.length ≤ 60 → (drawn raw).length = raw.length) ∧ (60 ≤ raw.length → (drawn raw).length = 60) := by rw [drawn_length]; omega
  obtain ⟨cs, hcs⟩ : ∃ cs, cs = drawn raw := ⟨_, rfl⟩
  have HCS := hid hcs
  rw [← hcs] at hdl
  clear hs hr hm hcs
  go_enter Try.func5, Try.ntmps5
  go_wp2
  go_loopw [5, 6] (fun v i wr => ∃ k : Nat, k ≤ cs.length ∧ i = .int .i64 k ∧ Hid (wr.ownsRow w.heap.size 3 1 v k ((cs.take k).map (Value.int .i64)) ∧ Below w.heap.size w wr)) (fun _ i _ => cs.length - (intOf i).toNat)
  case atStart => exact ⟨0, by omega, rfl, World.ownsRow_nil _ _ _ _, Below.refl _ _⟩
  case round =>
    obtain ⟨k, hk, rfl, HO⟩ := hrel
    by_cases hlt : k < cs.length
    · obtain ⟨b, off, rfl, hc⟩ := HS.out (by omega)
      obtain ⟨x, hx⟩ : ∃ z, z = raw.getD k 0 := ⟨_, rfl⟩
      have hcx : w.cell? ⟨b, off + k, none⟩ = some (.int .i64 x) := by rw [hx]; exact hc k (by omega)
      have hbl : b < w.heap.size := World.block_lt_of_cell? w _ hcx
      have hcr : wr.cell? ⟨b, off + k, none⟩ = some (.int .i64 x) := (HO.out.2.cell (p := ⟨b, off + k, none⟩) hbl).trans hcx
      have hxr := HR.out x (by rw [hx]; simp [List.getD, show k < raw.length by omega])
      have HP : Hid (cs.getD k 0 = pk x 1000) := by show _ = _; rw [HCS.out, hx]; exact drawn_getD raw k (by omega) (by omega)
      clear hx hc hcx
      go_wp2_with (first | (go_at_call 11; refine (pick_any _ _ _ (by omega) (by omega) hxr).mono ?_; rintro e w' ⟨rfl, rfl⟩) | (at_builtin; refine wpList_append_own _ rfl (.tmp 28) (.tmp 34) 27 rfl w.heap.size 3 i0 (.int .i64 0) 1 8 Try.underlying27 hi hz0 hz1 hz2 rfl (by decide) _ _ _ rfl (HO.out.1.alloc _) ⟨wr.heap.size, 0, none⟩ 1 1 [.int .i64 (pk x 1000)] rfl rfl (cell_one_new _ _ _) ?c2a ?c3a ?c4a ?c5a ?_))
      case c2a => intro u hu; simp at hu; subst hu; rfl
      case c3a => unfold maxLen; omega
      case c4a => omega
      case c5a => have := HO.out.2.size; simp; omega
      intro v' w1 hown' hgrow hnn
      clear hnn
      have R := hid (draw_app hlt HP.out HO.out.1 HO.out.2 hown' hgrow)
      clear hown' hgrow hcr
      go_wp2
      go_roundw
      case rel => exact ⟨k + 1, by omega, by go_num, R⟩
      case measure => simp [intOf]; omega
    · have hkk : k = cs.length := by omega
      subst hkk
      clear hlt hk
      obtain ⟨ho, hB⟩ := HO.out
      rw [List.take_length] at ho
      have hnc : cs.any nc = false := by rw [HCS.out]; exact drawn_nc raw
      have hpk := pk_range lim 9 (by omega)
      obtain ⟨m, hmeq⟩ : ∃ m : Nat, (m : Int) = 6 + pk lim 9 := ⟨(6 + pk lim 9).toNat, by omega⟩
      have HME := hid hmeq
      obtain ⟨ca, cc, rfl, hsg⟩ := owns_seg ho
      have HSG := hid hsg
      have HB := hid hB
      have HNC := hid hnc
      have hsl : (sing cs).length ≤ 60 := by have := sing_len 0 cs; unfold sing; omega
      have hm6 : 6 ≤ m ∧ m ≤ 14 := by omega
      have HF1 : Hid ((sing cs).length ≤ 2 ^ m) := by
        have : (2 : Nat) ^ 6 ≤ 2 ^ m := Nat.pow_le_pow_right (by omega) hm6.1
        show _ ≤ _
        omega
      have HF2 : Hid ((sing cs).length ≤ 2 ^ (m + 1)) := by
        have : (2 : Nat) ^ 6 ≤ 2 ^ (m + 1) := Nat.pow_le_pow_right (by omega) (by omega)
        show _ ≤ _
        omega
      clear ho hB hnc hsg HO hsl
      have HMN : Hid (6 + pk lim 9 = (m : Int)) := HME.out.symm
      by_cases h60 : cs.length < raw.length
      · have hc60 : ¬ cs.length < 60 := by omega
        have h61 : cs.length ≤ 60 := by omega
        clear hdl
        go_wp2_with (go_at_call 11; refine (pick_any _ _ _ (by omega) (by omega) hlim).mono ?_; rintro e w' ⟨rfl, rfl⟩)
        rw [HMN.out]
        refine (blengths_ok _ _ _ _ _ HSG.out (by omega) HNC.out (by omega) (by omega) HF1.out).mono ?_
        rintro e w1 ⟨g1, C1, rfl, hg1, hR1, hC1, hb1⟩
        have HG1 := hid (show _ ∧ _ ∧ _ ∧ _ from ⟨hg1, hR1, hC1, hb1⟩)
        have HSG1 := hid (HSG.out.below hb1)
        clear hg1 hR1 hC1 hb1 hpk
        go_wp2_with fail
        rw [show 6 + pk lim 9 + 1 = ((m + 1 : Nat) : Int) by omega]
        refine (blengths_ok _ _ _ _ _ HSG1.out (by omega) HNC.out (by omega) (by omega) HF2.out).mono ?_
        rintro e w2 ⟨g2, C2, rfl, hg2, hR2, hC2, hb2⟩
        have HG2 := hid (show _ ∧ _ ∧ _ ∧ _ from ⟨hg2, hR2, hC2, hb2⟩)
        have HSG2 := hid (HSG1.out.below hb2)
        have HR1 := hid (HG1.out.2.1.below hb2)
        clear hg2 hR2 hC2 hb2
        go_wp2_with fail
        have hch := chl_ok (by omega) (by omega) HF1.out HG1.out.2.2.1
        have hcer : cerr (chl cs C1) = 0 := by
          unfold cerr
          rw [chl_length, if_neg (by rw [hch.1]; simp; omega), if_neg (by omega)]
        have hcout : cout (chl cs C1) = bts (chl cs C1) := by
          unfold cout
          rw [chl_length, if_neg (by rw [hch.1]; simp; omega), if_neg (by omega)]
        have CC : Calls Try.prog 13 #[.slice (some ⟨g1, 0, none⟩) cs.length cs.length] w2 fun e w3 => ∃ v, e = .returned (.tuple #[v, .int .i64 0]) ∧ New w2 w3 v (bts (chl cs C1)) ∧ Below w2.heap.size w2 w3 := by
          have h := codes_any (some ⟨g1, 0, none⟩) cs.length (chl cs C1) w2 HR1.out.seg (by rw [chl_length]; unfold maxLen; omega)
          rw [chl_length, hcer, hcout] at h
          exact h
        refine CC.mono ?_
        rintro e w3 ⟨v3, rfl, hN3, hb3⟩
        have HCH := hid hch
        clear CC hcer hcout hch
        obtain ⟨va, vc, hv3, hs3⟩ : ∃ va vc, v3 = .slice va cs.length vc ∧ Seg w3 va (bts (chl cs C1)) := by
          rcases hN3 with ⟨e1, e2⟩ | ⟨g, e1, _, h3⟩
          · have h0 : cs.length = 0 := by rw [← chl_length cs C1, ← bts_length, e2]; rfl
            exact ⟨none, 0, by rw [e1, h0], by rw [e2]; intro h; simp at h⟩
          · rw [bts_length, chl_length] at e1
            exact ⟨_, _, e1, h3.seg⟩
        subst hv3
        have HS3 := hid hs3
        have HSC3 := hid (HSG2.out.below hb3)
        have HR31 := hid (HR1.out.below hb3)
        have HR32 := hid (HG2.out.2.1.below hb3)
        have HBB : Hid (Below w.heap.size w w3) := ((HB.out.trans (HG1.out.2.2.2.mono HB.out.size)).trans (HG2.out.2.2.2.mono (Nat.le_trans HB.out.size HG1.out.2.2.2.size))).trans (hb3.mono (Nat.le_trans HB.out.size (Nat.le_trans HG1.out.2.2.2.size HG2.out.2.2.2.size)))
        have HC12 : Hid (Chs (sing cs) m C1 ∧ Chs (sing cs) (m + 1) C2) := ⟨HG1.out.2.2.1, HG2.out.2.2.1⟩
        clear hN3 hs3 hb3 HR1 HSG1 HSG2 HB HSG
        go_wp2
        have H0 : Hid (Below w3.heap.size w3 w3) := Below.refl _ _
        go_loopw [14, 15, 16] (fun p q i wr => ∃ (k : Nat) (x y : Int), k ≤ cs.length ∧ i = .int .i64 k ∧ p = .int .i64 x ∧ q = .int .i64 y ∧ 0 ≤ x ∧ x ≤ 20000 * k ∧ 0 ≤ y ∧ y ≤ 20000 * k ∧ Hid (x = psum (fun i => cs.getD i 0 * (chl cs C1).getD i 0) k) ∧ Hid (y = psum (fun i => cs.getD i 0 * (chl cs C2).getD i 0) k) ∧ Hid (Below w3.heap.size w3 wr)) (fun _ _ i _ => cs.length - (intOf i).toNat)
        case atStart => exact ⟨0, 0, 0, by omega, rfl, rfl, rfl, by omega, by omega, by omega, by omega, rfl, rfl, H0⟩
        case round =>
          clear H0
          obtain ⟨k, x, y, hk, rfl, rfl, rfl, hx0, hx1, hy0, hy1, HX, HY, HK⟩ := hrel
          by_cases hlt : k < cs.length
          · obtain ⟨z, L, W, B, hAt⟩ : ∃ z L W B, At cs m C1 C2 k z L W B := ⟨_, _, _, _, at_of (by omega) (by omega) HF1.out HF2.out HC12.out hlt⟩
            have hz : 0 ≤ z ∧ z ≤ 999 := by rw [← hAt.hy, HCS.out]; exact drawn_range raw k
            have HAT := hid hAt
            have hL0 := hAt.lo
            have hL1 := hAt.hi
            have hW0 := hAt.wlo
            have hW1 := hAt.whi
            have hB0 := hAt.blo
            have hLz := hAt.same
            obtain ⟨pw, hpw⟩ : ∃ pw : Int, pw = (2 : Int) ^ L.toNat := ⟨_, rfl⟩
            have hBp : B < pw := by rw [hpw]; exact hAt.bhi
            have hpb := pow_int L.toNat (by omega)
            rw [← hpw] at hpb
            obtain ⟨cb, co, rfl, hcc⟩ := HSC3.out (by omega)
            obtain ⟨vb, vo, rfl, hcv⟩ := HS3.out (by rw [bts_length, chl_length]; omega)
            have c1 : wr.cell? ⟨cb, co + k, none⟩ = some (.int .i64 z) := by
              have h := hcc k hlt
              rw [hAt.hy] at h
              exact (HK.out.cell (p := ⟨cb, co + k, none⟩) (World.block_lt_of_cell? w3 _ h)).trans h
            have c2 : wr.cell? ⟨vb, vo + k, none⟩ = some (.int .i64 B) := by
              have h := hcv k (by rw [bts_length, chl_length]; omega)
              rw [hAt.hB] at h
              exact (HK.out.cell (p := ⟨vb, vo + k, none⟩) (World.block_lt_of_cell? w3 _ h)).trans h
            have c3 : wr.cell? ⟨g1, k, none⟩ = some (.int .i64 L) := by
              have h := HR31.out.cell (j := k) (by rw [lens_length]; exact hlt)
              have e : (lens cs.length (C1.flatMap Prod.snd)).getD k 0 = L := hAt.hL
              rw [e] at h
              exact (HK.out.cell (p := ⟨g1, k, none⟩) (World.block_lt_of_cell? w3 _ h)).trans h
            have c4 : wr.cell? ⟨g2, k, none⟩ = some (.int .i64 W) := by
              have h := HR32.out.cell (j := k) (by rw [lens_length]; exact hlt)
              have e : (lens cs.length (C2.flatMap Prod.snd)).getD k 0 = W := hAt.hW
              rw [e] at h
              exact (HK.out.cell (p := ⟨g2, k, none⟩) (World.block_lt_of_cell? w3 _ h)).trans h
            clear hAt hcc hcv
            have d3 : decide (L < 0) = false := by simp; omega
            have d4 : decide (6 + pk lim 9 < L) = false := by simp; omega
            have d5 : decide (B < 0) = false := by simp; omega
            have d6 : decide (pw ≤ B) = false := by simp; omega
            have hLt : L.toNat ≤ 14 := by omega
            rw [hpw] at d6
            have hdq : decide (0 < L) = decide (0 < z) := by by_cases h : 0 < z <;> simp [h] <;> omega
            have hzL : 0 ≤ z * L ∧ z * L ≤ 20000 := ⟨Int.mul_nonneg (by omega) (by omega), Int.le_trans (Int.mul_le_mul_of_nonneg_left (show L ≤ 20 by omega) (by omega)) (by omega)⟩
            have hzW : 0 ≤ z * W ∧ z * W ≤ 20000 := ⟨Int.mul_nonneg (by omega) (by omega), Int.le_trans (Int.mul_le_mul_of_nonneg_left (show W ≤ 20 by omega) (by omega)) (by omega)⟩
            clear hdq
            go_upto_region 17 with fail
            go_cut [139] (fun s wx => s = .bool false ∧ Hid (∃ q, wx = wr.drewN q))
            case first =>
              by_cases hzz : 0 < z
              · have hLL : 0 < L := by omega
                have d1 : decide (0 < L) = true := by simp; omega
                have d2 : decide (0 < z) = true := by simp; omega
                clear hLz
                go_quiet (fail)
                go_wp2
                go_meet
                exact ⟨rfl, _, rfl⟩
              · have hLL : ¬ 0 < L := by omega
                have d1 : decide (0 < L) = false := by simp; omega
                have d2 : decide (0 < z) = false := by simp; omega
                clear hLz
                go_quiet (fail)
                go_wp2
                go_meet
                exact ⟨rfl, _, rfl⟩
            case rest =>
            obtain ⟨rfl, HQ⟩ := hcut
            obtain ⟨q, rfl⟩ := HQ.out
            clear d3 d4 d5 d6 c2 hpb hBp hpw HQ hLz
            go_wp2
            go_quiet (fail)
            clear c3
            go_wp2
            go_quiet (fail)
            clear c1 c4
            go_wp2
            have HX' : Hid (x + z * L = psum (fun i => cs.getD i 0 * (chl cs C1).getD i 0) (k + 1)) := by
              show _ = _
              rw [HX.out, ← HAT.out.hy, ← HAT.out.hL]
              rfl
            have HY' : Hid (y + z * W = psum (fun i => cs.getD i 0 * (chl cs C2).getD i 0) (k + 1)) := by
              show _ = _
              rw [HY.out, ← HAT.out.hy, ← HAT.out.hW]
              rfl
            clear HX HY
            go_loopw [17] (fun j wj => ∃ t : Nat, t ≤ cs.length ∧ j = .int .i64 t ∧ Hid (Below w3.heap.size w3 wj)) (fun j _ => cs.length - (intOf j).toNat)
            case atStart => exact ⟨0, by omega, rfl, below_drewN' (below_drewN' (below_drewN' HK.out _) _) _⟩
            case round =>
              clear HK
              obtain ⟨t, ht, rfl, HK⟩ := hrel
              by_cases htl : t < cs.length
              · obtain ⟨z', L', W', B', hAt⟩ : ∃ z L W B, At cs m C1 C2 t z L W B := ⟨_, _, _, _, at_of (by omega) (by omega) HF1.out HF2.out HC12.out htl⟩
                have HAT' := hid hAt
                have hL0' := hAt.lo
                have hL1' := hAt.hi
                have c1 : wr.cell? ⟨vb, vo + k, none⟩ = some (.int .i64 B) := by
                  obtain ⟨_, _, e, hcv⟩ := HS3.out (by rw [bts_length, chl_length]; omega)
                  injection e with e
                  injection e with e1 e2
                  subst e1 e2
                  have h := hcv k (by rw [bts_length, chl_length]; omega)
                  rw [HAT.out.hB] at h
                  exact (HK.out.cell (p := ⟨vb, vo + k, none⟩) (World.block_lt_of_cell? w3 _ h)).trans h
                have c2 : wr.cell? ⟨vb, vo + t, none⟩ = some (.int .i64 B') := by
                  obtain ⟨_, _, e, hcv⟩ := HS3.out (by rw [bts_length, chl_length]; omega)
                  injection e with e
                  injection e with e1 e2
                  subst e1 e2
                  have h := hcv t (by rw [bts_length, chl_length]; omega)
                  rw [hAt.hB] at h
                  exact (HK.out.cell (p := ⟨vb, vo + t, none⟩) (World.block_lt_of_cell? w3 _ h)).trans h
                have c3 : wr.cell? ⟨g1, k, none⟩ = some (.int .i64 L) := by
                  have h := HR31.out.cell (j := k) (by rw [lens_length]; exact hlt)
                  have e : (lens cs.length (C1.flatMap Prod.snd)).getD k 0 = L := HAT.out.hL
                  rw [e] at h
                  exact (HK.out.cell (p := ⟨g1, k, none⟩) (World.block_lt_of_cell? w3 _ h)).trans h
                have c4 : wr.cell? ⟨g1, t, none⟩ = some (.int .i64 L') := by
                  have h := HR31.out.cell (j := t) (by rw [lens_length]; exact htl)
                  have e : (lens cs.length (C1.flatMap Prod.snd)).getD t 0 = L' := hAt.hL
                  rw [e] at h
                  exact (HK.out.cell (p := ⟨g1, t, none⟩) (World.block_lt_of_cell? w3 _ h)).trans h
                clear hAt
                by_cases htk : t = k
                · have en : ((t : Int) != (k : Int)) = false := by simp; omega
                  subst htk
                  clear c1 c2 c3 c4
                  go_wp2
                  go_quiet (fail)
                  go_wp2
                  go_roundw
                  case rel => exact ⟨t + 1, by omega, by go_num, below_drewN' HK.out _⟩
                  case measure => simp [intOf]; omega
                · have en : ((t : Int) != (k : Int)) = true := by simp; omega
                  have HNE : Hid (k ≠ t) := fun h => htk h.symm
                  by_cases hLL : 0 < L
                  · have d1 : decide (0 < L) = true := by simp; omega
                    by_cases hLL' : 0 < L'
                    · have d2 : decide (0 < L') = true := by simp; omega
                      go_wp2
                      go_quiet ((go_at_call 14; refine Calls.quiet_of_same (prefix_no (by omega) hlt htl HNE.out HAT.out HAT'.out hLL hLL' _)))
                      go_wp2
                      go_roundw
                      case rel => exact ⟨t + 1, by omega, by go_num, below_drewN' HK.out _⟩
                      case measure => simp [intOf]; omega
                    · have d2 : decide (0 < L') = false := by simp; omega
                      go_wp2
                      go_quiet (fail)
                      go_wp2
                      go_roundw
                      case rel => exact ⟨t + 1, by omega, by go_num, below_drewN' HK.out _⟩
                      case measure => simp [intOf]; omega
                  · have d1 : decide (0 < L) = false := by simp; omega
                    go_wp2
                    go_quiet (fail)
                    go_wp2
                    go_roundw
                    case rel => exact ⟨t + 1, by omega, by go_num, below_drewN' HK.out _⟩
                    case measure => simp [intOf]; omega
              · go_wp2
                go_roundw
                case rel => exact ⟨k + 1, x + z * L, y + z * W, by omega, by go_num, by go_num, by go_num, by omega, by omega, by omega, by omega, HX', HY', HK⟩
                case measure => simp [intOf]; omega
          · have hkk : k = cs.length := by omega
            have hyx : y ≤ x := by
              have h := free_cost HF1.out HC12.out
              rw [HX.out, HY.out, hkk]
              exact h
            go_wp2
            go_ret
            exact ⟨rfl, HBB.out.trans (HK.out.mono HBB.out.size)⟩
      · skip
        go_wp2_with (go_at_call 11; refine (pick_any _ _ _ (by omega) (by omega) hlim).mono ?_; rintro e w' ⟨rfl, rfl⟩)
        rw [HMN.out]
        refine (blengths_ok _ _ _ _ _ HSG.out (by omega) HNC.out (by omega) (by omega) HF1.out).mono ?_
        rintro e w1 ⟨g1, C1, rfl, hg1, hR1, hC1, hb1⟩
        have HG1 := hid (show _ ∧ _ ∧ _ ∧ _ from ⟨hg1, hR1, hC1, hb1⟩)
        have HSG1 := hid (HSG.out.below hb1)
        clear hg1 hR1 hC1 hb1 hpk
        go_wp2_with fail
        rw [show 6 + pk lim 9 + 1 = ((m + 1 : Nat) : Int) by omega]
        refine (blengths_ok _ _ _ _ _ HSG1.out (by omega) HNC.out (by omega) (by omega) HF2.out).mono ?_
        rintro e w2 ⟨g2, C2, rfl, hg2, hR2, hC2, hb2⟩
        have HG2 := hid (show _ ∧ _ ∧ _ ∧ _ from ⟨hg2, hR2, hC2, hb2⟩)
        have HSG2 := hid (HSG1.out.below hb2)
        have HR1 := hid (HG1.out.2.1.below hb2)
        clear hg2 hR2 hC2 hb2
        go_wp2_with fail
        have hch := chl_ok (by omega) (by omega) HF1.out HG1.out.2.2.1
        have hcer : cerr (chl cs C1) = 0 := by
          unfold cerr
          rw [chl_length, if_neg (by rw [hch.1]; simp; omega), if_neg (by omega)]
        have hcout : cout (chl cs C1) = bts (chl cs C1) := by
          unfold cout
          rw [chl_length, if_neg (by rw [hch.1]; simp; omega), if_neg (by omega)]
        have CC : Calls Try.prog 13 #[.slice (some ⟨g1, 0, none⟩) cs.length cs.length] w2 fun e w3 => ∃ v, e = .returned (.tuple #[v, .int .i64 0]) ∧ New w2 w3 v (bts (chl cs C1)) ∧ Below w2.heap.size w2 w3 := by
          have h := codes_any (some ⟨g1, 0, none⟩) cs.length (chl cs C1) w2 HR1.out.seg (by rw [chl_length]; unfold maxLen; omega)
          rw [chl_length, hcer, hcout] at h
          exact h
        refine CC.mono ?_
        rintro e w3 ⟨v3, rfl, hN3, hb3⟩
        have HCH := hid hch
        clear CC hcer hcout hch
        obtain ⟨va, vc, hv3, hs3⟩ : ∃ va vc, v3 = .slice va cs.length vc ∧ Seg w3 va (bts (chl cs C1)) := by
          rcases hN3 with ⟨e1, e2⟩ | ⟨g, e1, _, h3⟩
          · have h0 : cs.length = 0 := by rw [← chl_length cs C1, ← bts_length, e2]; rfl
            exact ⟨none, 0, by rw [e1, h0], by rw [e2]; intro h; simp at h⟩
          · rw [bts_length, chl_length] at e1
            exact ⟨_, _, e1, h3.seg⟩
        subst hv3
        have HS3 := hid hs3
        have HSC3 := hid (HSG2.out.below hb3)
        have HR31 := hid (HR1.out.below hb3)
        have HR32 := hid (HG2.out.2.1.below hb3)
        have HBB : Hid (Below w.heap.size w w3) := ((HB.out.trans (HG1.out.2.2.2.mono HB.out.size)).trans (HG2.out.2.2.2.mono (Nat.le_trans HB.out.size HG1.out.2.2.2.size))).trans (hb3.mono (Nat.le_trans HB.out.size (Nat.le_trans HG1.out.2.2.2.size HG2.out.2.2.2.size)))
        have HC12 : Hid (Chs (sing cs) m C1 ∧ Chs (sing cs) (m + 1) C2) := ⟨HG1.out.2.2.1, HG2.out.2.2.1⟩
        clear hN3 hs3 hb3 HR1 HSG1 HSG2 HB HSG
        go_wp2
        have H0 : Hid (Below w3.heap.size w3 w3) := Below.refl _ _
        go_loopw [14, 15, 16] (fun p q i wr => ∃ (k : Nat) (x y : Int), k ≤ cs.length ∧ i = .int .i64 k ∧ p = .int .i64 x ∧ q = .int .i64 y ∧ 0 ≤ x ∧ x ≤ 20000 * k ∧ 0 ≤ y ∧ y ≤ 20000 * k ∧ Hid (x = psum (fun i => cs.getD i 0 * (chl cs C1).getD i 0) k) ∧ Hid (y = psum (fun i => cs.getD i 0 * (chl cs C2).getD i 0) k) ∧ Hid (Below w3.heap.size w3 wr)) (fun _ _ i _ => cs.length - (intOf i).toNat)
        case atStart => exact ⟨0, 0, 0, by omega, rfl, rfl, rfl, by omega, by omega, by omega, by omega, rfl, rfl, H0⟩
        case round =>
          clear H0
          obtain ⟨k, x, y, hk, rfl, rfl, rfl, hx0, hx1, hy0, hy1, HX, HY, HK⟩ := hrel
          by_cases hlt : k < cs.length
          · obtain ⟨z, L, W, B, hAt⟩ : ∃ z L W B, At cs m C1 C2 k z L W B := ⟨_, _, _, _, at_of (by omega) (by omega) HF1.out HF2.out HC12.out hlt⟩
            have hz : 0 ≤ z ∧ z ≤ 999 := by rw [← hAt.hy, HCS.out]; exact drawn_range raw k
            have HAT := hid hAt
            have hL0 := hAt.lo
            have hL1 := hAt.hi
            have hW0 := hAt.wlo
            have hW1 := hAt.whi
            have hB0 := hAt.blo
            have hLz := hAt.same
            obtain ⟨pw, hpw⟩ : ∃ pw : Int, pw = (2 : Int) ^ L.toNat := ⟨_, rfl⟩
            have hBp : B < pw := by rw [hpw]; exact hAt.bhi
            have hpb := pow_int L.toNat (by omega)
            rw [← hpw] at hpb
            obtain ⟨cb, co, rfl, hcc⟩ := HSC3.out (by omega)
            obtain ⟨vb, vo, rfl, hcv⟩ := HS3.out (by rw [bts_length, chl_length]; omega)
            have c1 : wr.cell? ⟨cb, co + k, none⟩ = some (.int .i64 z) := by
              have h := hcc k hlt
              rw [hAt.hy] at h
              exact (HK.out.cell (p := ⟨cb, co + k, none⟩) (World.block_lt_of_cell? w3 _ h)).trans h
            have c2 : wr.cell? ⟨vb, vo + k, none⟩ = some (.int .i64 B) := by
              have h := hcv k (by rw [bts_length, chl_length]; omega)
              rw [hAt.hB] at h
              exact (HK.out.cell (p := ⟨vb, vo + k, none⟩) (World.block_lt_of_cell? w3 _ h)).trans h
            have c3 : wr.cell? ⟨g1, k, none⟩ = some (.int .i64 L) := by
              have h := HR31.out.cell (j := k) (by rw [lens_length]; exact hlt)
              have e : (lens cs.length (C1.flatMap Prod.snd)).getD k 0 = L := hAt.hL
              rw [e] at h
              exact (HK.out.cell (p := ⟨g1, k, none⟩) (World.block_lt_of_cell? w3 _ h)).trans h
            have c4 : wr.cell? ⟨g2, k, none⟩ = some (.int .i64 W) := by
              have h := HR32.out.cell (j := k) (by rw [lens_length]; exact hlt)
              have e : (lens cs.length (C2.flatMap Prod.snd)).getD k 0 = W := hAt.hW
              rw [e] at h
              exact (HK.out.cell (p := ⟨g2, k, none⟩) (World.block_lt_of_cell? w3 _ h)).trans h
            clear hAt hcc hcv
            have d3 : decide (L < 0) = false := by simp; omega
            have d4 : decide (6 + pk lim 9 < L) = false := by simp; omega
            have d5 : decide (B < 0) = false := by simp; omega
            have d6 : decide (pw ≤ B) = false := by simp; omega
            have hLt : L.toNat ≤ 14 := by omega
            rw [hpw] at d6
            have hdq : decide (0 < L) = decide (0 < z) := by by_cases h : 0 < z <;> simp [h] <;> omega
            have hzL : 0 ≤ z * L ∧ z * L ≤ 20000 := ⟨Int.mul_nonneg (by omega) (by omega), Int.le_trans (Int.mul_le_mul_of_nonneg_left (show L ≤ 20 by omega) (by omega)) (by omega)⟩
            have hzW : 0 ≤ z * W ∧ z * W ≤ 20000 := ⟨Int.mul_nonneg (by omega) (by omega), Int.le_trans (Int.mul_le_mul_of_nonneg_left (show W ≤ 20 by omega) (by omega)) (by omega)⟩
            clear hdq
            go_upto_region 17 with fail
            go_cut [139] (fun s wx => s = .bool false ∧ Hid (∃ q, wx = wr.drewN q))
            case first =>
              by_cases hzz : 0 < z
              · have hLL : 0 < L := by omega
                have d1 : decide (0 < L) = true := by simp; omega
                have d2 : decide (0 < z) = true := by simp; omega
                clear hLz
                go_quiet (fail)
                go_wp2
                go_meet
                exact ⟨rfl, _, rfl⟩
              · have hLL : ¬ 0 < L := by omega
                have d1 : decide (0 < L) = false := by simp; omega
                have d2 : decide (0 < z) = false := by simp; omega
                clear hLz
                go_quiet (fail)
                go_wp2
                go_meet
                exact ⟨rfl, _, rfl⟩
            case rest =>
            obtain ⟨rfl, HQ⟩ := hcut
            obtain ⟨q, rfl⟩ := HQ.out
            clear d3 d4 d5 d6 c2 hpb hBp hpw HQ hLz
            go_wp2
            go_quiet (fail)
            clear c3
            go_wp2
            go_quiet (fail)
            clear c1 c4
            go_wp2
            have HX' : Hid (x + z * L = psum (fun i => cs.getD i 0 * (chl cs C1).getD i 0) (k + 1)) := by
              show _ = _
              rw [HX.out, ← HAT.out.hy, ← HAT.out.hL]
              rfl
            have HY' : Hid (y + z * W = psum (fun i => cs.getD i 0 * (chl cs C2).getD i 0) (k + 1)) := by
              show _ = _
              rw [HY.out, ← HAT.out.hy, ← HAT.out.hW]
              rfl
            clear HX HY
            go_loopw [17] (fun j wj => ∃ t : Nat, t ≤ cs.length ∧ j = .int .i64 t ∧ Hid (Below w3.heap.size w3 wj)) (fun j _ => cs.length - (intOf j).toNat)
            case atStart => exact ⟨0, by omega, rfl, below_drewN' (below_drewN' (below_drewN' HK.out _) _) _⟩
            case round =>
              clear HK
              obtain ⟨t, ht, rfl, HK⟩ := hrel
              by_cases htl : t < cs.length
              · obtain ⟨z', L', W', B', hAt⟩ : ∃ z L W B, At cs m C1 C2 t z L W B := ⟨_, _, _, _, at_of (by omega) (by omega) HF1.out HF2.out HC12.out htl⟩
                have HAT' := hid hAt
                have hL0' := hAt.lo
                have hL1' := hAt.hi
                have c1 : wr.cell? ⟨vb, vo + k, none⟩ = some (.int .i64 B) := by
                  obtain ⟨_, _, e, hcv⟩ := HS3.out (by rw [bts_length, chl_length]; omega)
                  injection e with e
                  injection e with e1 e2
                  subst e1 e2
                  have h := hcv k (by rw [bts_length, chl_length]; omega)
                  rw [HAT.out.hB] at h
                  exact (HK.out.cell (p := ⟨vb, vo + k, none⟩) (World.block_lt_of_cell? w3 _ h)).trans h
                have c2 : wr.cell? ⟨vb, vo + t, none⟩ = some (.int .i64 B') := by
                  obtain ⟨_, _, e, hcv⟩ := HS3.out (by rw [bts_length, chl_length]; omega)
                  injection e with e
                  injection e with e1 e2
                  subst e1 e2
                  have h := hcv t (by rw [bts_length, chl_length]; omega)
                  rw [hAt.hB] at h
                  exact (HK.out.cell (p := ⟨vb, vo + t, none⟩) (World.block_lt_of_cell? w3 _ h)).trans h
                have c3 : wr.cell? ⟨g1, k, none⟩ = some (.int .i64 L) := by
                  have h := HR31.out.cell (j := k) (by rw [lens_length]; exact hlt)
                  have e : (lens cs.length (C1.flatMap Prod.snd)).getD k 0 = L := HAT.out.hL
                  rw [e] at h
                  exact (HK.out.cell (p := ⟨g1, k, none⟩) (World.block_lt_of_cell? w3 _ h)).trans h
                have c4 : wr.cell? ⟨g1, t, none⟩ = some (.int .i64 L') := by
                  have h := HR31.out.cell (j := t) (by rw [lens_length]; exact htl)
                  have e : (lens cs.length (C1.flatMap Prod.snd)).getD t 0 = L' := hAt.hL
                  rw [e] at h
                  exact (HK.out.cell (p := ⟨g1, t, none⟩) (World.block_lt_of_cell? w3 _ h)).trans h
                clear hAt
                by_cases htk : t = k
                · have en : ((t : Int) != (k : Int)) = false := by simp; omega
                  subst htk
                  clear c1 c2 c3 c4
                  go_wp2
                  go_quiet (fail)
                  go_wp2
                  go_roundw
                  case rel => exact ⟨t + 1, by omega, by go_num, below_drewN' HK.out _⟩
                  case measure => simp [intOf]; omega
                · have en : ((t : Int) != (k : Int)) = true := by simp; omega
                  have HNE : Hid (k ≠ t) := fun h => htk h.symm
                  by_cases hLL : 0 < L
                  · have d1 : decide (0 < L) = true := by simp; omega
                    by_cases hLL' : 0 < L'
                    · have d2 : decide (0 < L') = true := by simp; omega
                      go_wp2
                      go_quiet ((go_at_call 14; refine Calls.quiet_of_same (prefix_no (by omega) hlt htl HNE.out HAT.out HAT'.out hLL hLL' _)))
                      go_wp2
                      go_roundw
                      case rel => exact ⟨t + 1, by omega, by go_num, below_drewN' HK.out _⟩
                      case measure => simp [intOf]; omega
                    · have d2 : decide (0 < L') = false := by simp; omega
                      go_wp2
                      go_quiet (fail)
                      go_wp2
                      go_roundw
                      case rel => exact ⟨t + 1, by omega, by go_num, below_drewN' HK.out _⟩
                      case measure => simp [intOf]; omega
                  · have d1 : decide (0 < L) = false := by simp; omega
                    go_wp2
                    go_quiet (fail)
                    go_wp2
                    go_roundw
                    case rel => exact ⟨t + 1, by omega, by go_num, below_drewN' HK.out _⟩
                    case measure => simp [intOf]; omega
              · go_wp2
                go_roundw
                case rel => exact ⟨k + 1, x + z * L, y + z * W, by omega, by go_num, by go_num, by go_num, by omega, by omega, by omega, by omega, HX', HY', HK⟩
                case measure => simp [intOf]; omega
          · have hkk : k = cs.length := by omega
            have hyx : y ≤ x := by
              have h := free_cost HF1.out HC12.out
              rw [HX.out, HY.out, hkk]
              exact h
            go_wp2
            go_ret
            exact ⟨rfl, HBB.out.trans (HK.out.mono HBB.out.size)⟩
end Go.Proofs.Ythdmjmnkhlpnnaa

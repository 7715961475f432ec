/-
  The packer's search: the words of a piece.
-/
import Derived.Test.YthdmjmnkhlpnnaaGreatDoorZ18
import Derived.Test.YthdmjmnkhlpnnaaGreatDoorZ16
import Derived.Test.YthdmjmnkhlpnnaaGreatDoorZ02
import Derived.Laws.EntriesVeiled
import Derived.Test.YthdmjmnkhlpnnaaGreatDoorZ12
namespace Go.Proofs.YthdmjmnkhlpnnaaGreatDoor
open Go.RowKit Go.Maps
variable {w : World} {S tr en : Nat} {X : ByteArray} {kn dr T M : Nat} {pv : Value}
theorem infoWord : (Tryz.prog.info? 159).map (fun i => (i.zero, i.size, i.bytes)) = some (some (.agg #[.int .u8 0, .int .i64 0, .int .i64 0]), 3, 24) := by kernel_rfl
/-- the cells of words -/
def wc3 (x : Wd) : List Value := [.int .u8 (wdL x), .int .i64 (wdC x), .int .i64 (wdB x)]
def wcs (ws : List Wd) : List Value := ws.flatMap wc3
theorem wcs_snoc (ws : List Wd) (x : Wd) : wcs (ws ++ [x]) = wcs ws ++ wc3 x := by simp [wcs]
theorem wcs_length (ws : List Wd) : (wcs ws).length = ws.length * 3 := by
  induction ws with
  | nil => rfl
  | cons x r ih => show (wc3 x ++ wcs r).length = _; rw [List.length_append, ih]; simp [wc3]; omega
theorem wcs_get (ws : List Wd) (j : Nat) (x : Wd) (h : ws[j]? = some x) : (wcs ws)[j * 3]? = some (.int .u8 (wdL x)) ∧ (wcs ws)[j * 3 + 1]? = some (.int .i64 (wdC x)) ∧ (wcs ws)[j * 3 + 2]? = some (.int .i64 (wdB x)) := by
  induction ws generalizing j with
  | nil => simp at h
  | cons y r ih =>
    cases j with
    | zero => simp at h; subst h; exact ⟨rfl, rfl, rfl⟩
    | succ j =>
      have := ih j (by simpa using h)
      rw [show (j + 1) * 3 = j * 3 + 3 by omega, show j * 3 + 3 + 1 = j * 3 + 1 + 3 by omega, show j * 3 + 3 + 2 = j * 3 + 2 + 3 by omega]
      exact this
theorem own_wseg {base : Nat} {v : Value} {ws : List Wd} (h : w.ownsRow base 159 3 v ws.length (wcs ws)) : ∃ ao c, v = .slice ao ws.length c ∧ WSeg w ao ws := by
  obtain ⟨_, ⟨rfl, h0⟩ | ⟨g, cap, cur, rfl, hg, hh, h1, h2, h3, h4⟩⟩ := h
  · exact ⟨none, 0, by rw [h0], fun hp => by omega⟩
  · refine ⟨some ⟨g, 0, none⟩, cap, rfl, fun _ => ⟨g, 0, cur, rfl, hh, fun j x hx => ?_⟩⟩
    have hj : j < ws.length := (List.getElem?_eq_some_iff.1 hx).1
    obtain ⟨e0, e1, e2⟩ := wcs_get ws j x hx
    have e : ∀ i, i < ws.length * 3 → cur[i]? = (wcs ws)[i]? := fun i hi => by rw [← h4, List.getElem?_take, if_pos (by omega), Array.getElem?_toList]
    simp only [Nat.zero_add]
    exact ⟨by rw [e _ (by omega), e0], by rw [e _ (by omega), e1], by rw [e _ (by omega), e2]⟩
theorem okm_len (ws : List Wd) (n : Nat) (h : okm ws n) : ws.length ≤ wns ws := by
  induction ws generalizing n with
  | nil => exact Nat.le_refl _
  | cons x r ih =>
    have h2 := ih _ h.2
    have h1 := h.1
    rw [List.length_cons, wns]
    cases x with
    | lit y => simp only [wn]; omega
    | mat c b => have := h1.1; simp only [wn]; omega
/-- the state of the search of words, in memory -/
structure Wl (w wr : World) (S tr en : Nat) (X : ByteArray) (dr T M : Nat) (pv : Value) (ws : List Wd) (wv : Value) (H c b kn : Nat) (pv' : Value) : Prop where
  here : wr.heap[H]? = some (.cells #[.int .u8 0, .int .i64 c, .int .i64 b] 159 (0, 0))
  hnew : w.heap.size ≤ H
  row : wr.ownsRow w.heap.size 159 3 wv ws.length (wcs ws)
  apart : wv.ownBlock ≠ some H
  sx : Sx wr S tr en X kn dr T M pv'
  fr : Fr (SxO S T M pv) w wr
  mv : Moved pv pv' w
section
variable {wr : World} {ws : List Wd} {wv : Value} {H c b : Nat} {pv' : Value}
theorem row_word {base n : Nat} {v : Value} {xs : List Value} (h : wr.ownsRow base 159 3 v n xs) {k : Nat} (hk : v.ownBlock = some k) : ∃ cs, wr.heap[k]? = some (.cells cs 159 (0, 0)) := by
  obtain ⟨_, ⟨rfl, _⟩ | ⟨g, cap, cur, rfl, _, hh, _⟩⟩ := h
  · simp [Value.ownBlock] at hk
  · simp [Value.ownBlock] at hk
    subst hk
    exact ⟨cur, hh⟩
/-- a step of the search -/
theorem Wl.step {W2 : World} {kn2 : Nat} {pv2 : Value} (h : Wl w wr S tr en X dr T M pv ws wv H c b kn pv') (hs : Sx W2 S tr en X kn2 dr T M pv2) (hf : Fr (SxO S T M pv') wr W2) (hm : Moved pv' pv2 wr) : Wl w W2 S tr en X dr T M pv ws wv H c b kn2 pv2 :=
  ⟨(hf.blk H (Array.getElem?_eq_some_iff.1 h.here).1 (SxO.apart h.sx h.here (by decide) (by decide) (by decide))).trans h.here, h.hnew, owns_kept h.row (fun k e => by
    obtain ⟨cs, hc⟩ := row_word h.row e
    exact hf.blk k (Array.getElem?_eq_some_iff.1 hc).1 (SxO.apart h.sx hc (by decide) (by decide) (by decide))), h.apart, hs, h.fr.next hf (fun k hk => SxO.moved h.mv k hk), h.mv.trans h.fr.env.size hm⟩
theorem Wl.below {W2 : World} (h : Wl w wr S tr en X dr T M pv ws wv H c b kn pv') (hb : Below wr.heap.size wr W2) : Wl w W2 S tr en X dr T M pv ws wv H c b kn pv' :=
  ⟨(hb.block H (Array.getElem?_eq_some_iff.1 h.here).1).trans h.here, h.hnew, owns_kept h.row (fun k e => hb.block k (h.row.lt k e).2), h.apart, h.sx.below hb, h.fr.below hb, h.mv⟩
/-- another word lies there -/
theorem Wl.setHere (h : Wl w wr S tr en X dr T M pv ws wv H c b kn pv') (c2 b2 : Nat) : Wl w (((wr.setCell ⟨H, 0, none⟩ (.int .u8 0)).setCell ⟨H, 1, none⟩ (.int .i64 c2)).setCell ⟨H, 2, none⟩ (.int .i64 b2)) S tr en X dr T M pv ws wv H c2 b2 kn pv' := by
  have hap := SxO.apart h.sx h.here (by decide) (by decide) (by decide)
  have hn := h.hnew
  refine ⟨by rw [blk_set (blk_set (blk_set h.here _ _) _ _) _ _]; rfl, h.hnew, owns_kept h.row (fun k e => ?_), h.apart, ((h.sx.beside ⟨H, 0, none⟩ hap _).beside ⟨H, 1, none⟩ hap _).beside ⟨H, 2, none⟩ hap _, ((h.fr.setNew ⟨H, 0, none⟩ hn _).setNew ⟨H, 1, none⟩ hn _).setNew ⟨H, 2, none⟩ hn _, h.mv⟩
  have hk : k ≠ H := fun e' => h.apart (by rw [e, e'])
  rw [Below.heap_setCell _ _ _ _ (by exact hk), Below.heap_setCell _ _ _ _ (by exact hk), Below.heap_setCell _ _ _ _ (by exact hk)]
/-- a store beside it -/
theorem Wl.beside {N : Nat} (h : Wl w wr S tr en X dr T M pv ws wv H c b kn pv') (hN : N ≠ H) (h2 : w.heap.size ≤ N) (h3 : wv.ownBlock ≠ some N) (h4 : ¬ SxO S T M pv' N) (j : Nat) (v : Value) : Wl w (wr.setCell ⟨N, j, none⟩ v) S tr en X dr T M pv ws wv H c b kn pv' :=
  ⟨(Below.heap_setCell _ _ _ _ (by exact Ne.symm hN)).trans h.here, h.hnew, owns_kept h.row (fun _ e => Below.heap_setCell _ _ _ _ (fun e' => h3 (by rw [e, e']))), h.apart, h.sx.beside ⟨N, j, none⟩ h4 v, h.fr.setNew ⟨N, j, none⟩ h2 v, h.mv⟩
/-- the word lies in a new place -/
theorem Wl.move (h : Wl w wr S tr en X dr T M pv ws wv H c b kn pv') : Wl w (wr.alloc (.cells #[.int .u8 0, .int .i64 c, .int .i64 b] 159)) S tr en X dr T M pv ws wv wr.heap.size c b kn pv' := by
  have h2 := h.below ((Below.refl wr.heap.size wr).alloc (Nat.le_refl _) (.cells #[.int .u8 0, .int .i64 c, .int .i64 b] 159))
  exact ⟨heap_alloc_new _ _, h.fr.env.size, h2.row, fun e => by have := (h.row.lt _ e).2; omega, h2.sx, h2.fr, h2.mv⟩
/-- a word more -/
theorem Wl.push {W1 : World} {g cap : Nat} {ob : Obj} {x : Wd} (h : Wl w wr S tr en X dr T M pv ws wv H c b kn pv') (hown : W1.ownsRow w.heap.size 159 3 (.slice (some ⟨g, 0, none⟩) (ws.length + 1) cap) (ws.length + 1) (wcs ws ++ wc3 x)) (hg : (wr.alloc ob).grownBy W1 wv.ownBlock) (hat : wv.ownBlock = some g ∨ g = wr.heap.size + 1) : Wl w W1 S tr en X dr T M pv (ws ++ [x]) (.slice (some ⟨g, 0, none⟩) (ws.length + 1) cap) H c b kn pv' := by
  have h2 := h.below ((Below.refl wr.heap.size wr).alloc (Nat.le_refl _) ob)
  have hH := (Array.getElem?_eq_some_iff.1 h.here).1
  have hr : ∀ r, wv.ownBlock = some r → w.heap.size ≤ r := fun r e => (h.row.lt r e).1
  refine ⟨(hg.block H (Array.getElem?_eq_some_iff.1 h2.here).1 (fun e => h.apart e.symm)).trans h2.here, h.hnew, by rw [wcs_snoc, List.length_append]; exact hown, ?_, ?_, h2.fr.grownNew hg hr, h.mv⟩
  · simp only [Value.ownBlock]
    rcases hat with e | e
    · intro e2; injection e2 with e2; exact h.apart (by rw [e, e2])
    · intro e2; injection e2 with e2; omega
  · refine h2.sx.kept (fun k hk => hg.block k (h2.sx.olt hk) (fun e => ?_)) hg.size
    obtain ⟨cs, hc⟩ := row_word h2.row e.symm
    exact SxO.apart h2.sx hc (by decide) (by decide) (by decide) hk
end
set_option maxRecDepth 20000 in
set_option maxHeartbeats 1000000 in
theorem words_any (h : Sx w S tr en X kn dr T M pv) (hkn : kn = X.size - 2) (hX : X.size ≤ 98303) (Y : ByteArray) (hY : Y.size ≤ 65535) (hdr : dr = 0 ∨ 32768 ≤ X.size) (hd : dr ≤ 10000000000000) (htr : 1 ≤ tr) (htr2 : tr ≤ 1000) (hen : 1 ≤ en) (hen2 : en ≤ 1000) :
    Calls Tryz.prog 84 #[.pointer (some ⟨S, 0, none⟩), .string Y] w fun e w' => ∃ (ao : Option Addr) (c : Nat) (ws : List Wd) (pv' : Value), e = .returned (.slice ao ws.length c) ∧ WSeg w' ao ws ∧ Ws (X.extract (X.size - 32768) X.size ++ Y) (X.size - (X.size - 32768)) (X.extract (X.size - 32768) X.size ++ Y).size ws ∧ Sx w' S tr en (X.extract (X.size - 32768) X.size ++ Y) ((X.extract (X.size - 32768) X.size ++ Y).size - 2) (dr + (X.size - 32768)) T M pv' ∧ Fr (SxO S T M pv) w w' ∧ Moved pv pv' w := by
  have HH := hid h
  obtain ⟨o, ho⟩ : ∃ o, o = X.size - 32768 := ⟨_, rfl⟩
  rw [← ho]
  have hBG := sbegin_any w S tr en kn X Y (.pointer (some ⟨T, 0, none⟩)) o ho (by omega) (by omega) (by omega) (by omega) h.blk
  obtain ⟨X', hX'⟩ : ∃ X', X' = X.extract o X.size ++ Y := ⟨_, rfl⟩
  obtain ⟨a0, ha0⟩ : ∃ a0, a0 = X.size - o := ⟨_, rfl⟩
  obtain ⟨dr', hdr'⟩ : ∃ d, d = dr + o := ⟨_, rfl⟩
  have hXs : X'.size = a0 + Y.size := by rw [hX', ByteArray.size_append, ByteArray.size_extract]; omega
  have hXl : X'.size ≤ 1000000 := by omega
  have ha0l : a0 ≤ X'.size := by omega
  have hdl : dr' ≤ 100000000000000 := by omega
  have hdd : dr' = 0 ∨ 32768 ≤ a0 := by omega
  have hk1 : kn - o ≤ a0 := by omega
  rw [← hX', ← ha0, ← hdr']
  have HBG : Hid (Calls Tryz.prog 108 #[.pointer (some ⟨S, 0, none⟩), .string Y] w fun e w' => e = .returned (.int .i64 a0) ∧ Sx w' S tr en X' (kn - o) dr' T M pv ∧ Fr (SxO S T M pv) w w') := hBG.mono fun e w' ⟨h1, h2, h3⟩ => ⟨by rw [h1, ha0], by rw [hX', hdr']; exact h.began Y o (by omega) h3 h2, h3.mono (fun _ e => .inl e)⟩
  obtain ⟨k1, hkk⟩ : ∃ k1, k1 = kn - o := ⟨_, rfl⟩
  rw [← hkk] at HBG hk1
  have HXs := hid hXs
  obtain ⟨i0, hi, hz0, hz1, hz2⟩ := info_parts infoWord
  clear h hBG hX' ha0 hdr' ho hkk hkn hXs hdr hd hX hY
  go_enter Tryz.func84, Tryz.ntmps84
  go_upto_region 2 with (go_at_call 108; refine HBG.out.mono ?_; rintro e W1 ⟨rfl, hb1, hf1⟩; have HS1 := hid hb1; have HF1 := hid hf1; clear hb1 hf1)
  go_upto_region 4 with (go_at_call 109; refine (longest_any HS1.out hXl hdl a0 hk1 ha0l hdd htr htr2).mono ?_; rintro e W2 ⟨c, b, pv2, rfl, hlg, hs2, hf2, hm2⟩; have HLG := hid hlg; have HS2 := hid hs2; have HF2 := hid hf2; have HM2 := hid hm2; clear hlg hs2 hf2 hm2)
  have HWL0 : Hid (Wl w (W2.alloc (.cells #[.int .u8 0, .int .i64 c, .int .i64 b] 159)) S tr en X' dr' T M pv [] (.slice none 0 0) W2.heap.size c b (min a0 (X'.size - 2)) pv2) := by
    have hz := HF1.out.env.size
    have hz2 := HF2.out.env.size
    have hb := (Below.refl W2.heap.size W2).alloc (Nat.le_refl _) (.cells #[.int .u8 0, .int .i64 c, .int .i64 b] 159)
    exact ⟨heap_alloc_new _ _, by omega, World.ownsRow_nil _ _ _ _, by simp [Value.ownBlock], HS2.out.below hb, (HF1.out.trans HF2.out).below hb, HM2.out.imp id (fun ⟨q, e1, e2⟩ => ⟨q, by omega, e2⟩)⟩
  have HW0 : Hid (Ws X' a0 a0 []) := Ws.start X' a0 ha0l
  go_loopw [5, 6, 7] (fun v5 v6 v7 wr => ∃ (a : Nat) (ws : List Wd) (H c b : Nat) (pv' : Value), v5 = .int .i64 a ∧ v7 = .pointer (some ⟨H, 0, none⟩) ∧ a0 ≤ a ∧ a ≤ X'.size ∧ Hid (Wl w wr S tr en X' dr' T M pv ws v6 H c b (min a (X'.size - 2)) pv') ∧ Hid (Ws X' a0 a ws) ∧ Hid (Lg X' a c b)) (fun v5 _ _ _ => X'.size - (intOf v5).toNat)
  case atStart => exact ⟨a0, [], _, c, b, pv2, rfl, rfl, Nat.le_refl _, ha0l, HWL0, HW0, HLG⟩
  case round =>
    clear HWL0 HW0 HLG HS2 HF2 HM2 HS1 HF1 HBG hk1
    obtain ⟨a, ws, H, c, b, pv', rfl, rfl, ha1, ha2, HWL, HWS, HLG⟩ := hrel
    have hlen : ws.length ≤ 1000000 := by have := okm_len ws a0 HWS.out.ok; have := HWS.out.wns; omega
    obtain ⟨c0, c1, c2, c3, c4⟩ := HWL.out.sx.cells
    clear c0 c3 c4
    obtain ⟨h0, h1, h2, hf⟩ := cells3w HWL.out.here
    clear h0 h2 hf
    by_cases hlt : a < X'.size
    · have d1 : decide ((a : Int) < (X'.size : Int)) = true := by simp; omega
      go_upto_region 6 with fail
      have HB1 := hid ((Below.refl wr.heap.size wr).alloc (Nat.le_refl _) (.cells #[.int .u8 0, .int .i64 0, .int .i64 0] 159))
      have HX1 : Hid ((wr.alloc (.cells #[.int .u8 0, .int .i64 0, .int .i64 0] 159)).heap[wr.heap.size]? = some (.cells #[.int .u8 0, .int .i64 0, .int .i64 0] 159 (0, 0))) := heap_alloc_new _ _
      obtain ⟨N, hN⟩ : ∃ N, N = wr.heap.size := ⟨_, rfl⟩
      rw [← hN] at HX1 ⊢
      have HN := hid hN
      clear hN c1 c2 h1 d1
      generalize wr.alloc (.cells #[.int .u8 0, .int .i64 0, .int .i64 0] 159) = W1' at HB1 HX1 ⊢
      have HWL1 := hid (HWL.out.below HB1.out)
      have HNe : Hid (N ≠ H ∧ w.heap.size ≤ N ∧ u6.ownBlock ≠ some N) := by
        have q1 := (Array.getElem?_eq_some_iff.1 HWL.out.here).1
        have q2 := HN.out
        have q3 := HWL.out.fr.env.size
        exact ⟨by omega, by omega, fun e => by have := (HWL.out.row.lt _ e).2; omega⟩
      obtain ⟨c0, c1, c2, c3, c4⟩ := HWL1.out.sx.cells
      clear c0 c2 c3 c4
      obtain ⟨h0, h1, h2, hf⟩ := cells3w HWL1.out.here
      clear h0 h2 hf
      go_quiet (fail)
      clear c1 h1
      have HB2 := hid (below_drewN' (Below.refl W1'.heap.size W1') nq)
      have HX2 : Hid ((W1'.drewN nq).heap[N]? = _) := HX1
      generalize W1'.drewN nq = W2' at HB2 HX2 ⊢
      have HWL2 := hid (HWL1.out.below HB2.out)
      clear HWL1 HX1 HB1 HB2 HWL
      by_cases hce : c < en
      case' pos =>
        have d2 : decide ((c : Int) < (en : Int)) = true := by simp; omega
        obtain ⟨a1, hae⟩ : ∃ a1, a1 = a + 1 := ⟨_, rfl⟩
        have jA : IntKind.i64.wrap ((a : Int) + 1) = (a1 : Int) := by rw [IntKind.wrap_i64]; omega
        have ha1l : a1 ≤ X'.size := by omega
        have hkk : min a (X'.size - 2) ≤ a1 := by omega
        have hdd1 : dr' = 0 ∨ 32768 ≤ a1 := by omega
        have HA1 := hid hae
        clear hae
        go_upto_region 8 with (go_at_call 109; refine (longest_any HWL2.out.sx hXl hdl a1 hkk ha1l hdd1 htr htr2).mono ?_; rintro e W3 ⟨c', b', pv3, rfl, hlg, hs3, hf3, hm3⟩; have HLG3 := hid hlg; have HWL3 := hid (HWL2.out.step hs3 hf3 hm3); have hx3 : W3.heap[N]? = _ := (hf3.blk N (Array.getElem?_eq_some_iff.1 HX2.out).1 (SxO.apart HWL2.out.sx HX2.out (by decide) (by decide) (by decide))).trans HX2.out; obtain ⟨x0, x1, x2, xf⟩ := cells3w hx3; have HX3 := hid hx3; clear hlg hs3 hf3 hm3 hx3)
        obtain ⟨kn4, hk4⟩ : ∃ k, k = min a1 (X'.size - 2) := ⟨_, rfl⟩
        rw [← hk4] at HWL3
        have HNX : Hid ((c' = 0 ∧ c ≠ 0 ∧ kn4 = min a (X'.size - 2)) ∨ (Lg X' (a + 1) c' b' ∧ kn4 = min (a + 1) (X'.size - 2))) := .inr ⟨by rw [← HA1.out]; exact HLG3.out, by rw [← HA1.out]; exact hk4⟩
        have HX4 : Hid ((((W3.setCell ⟨N, 0, none⟩ (.int .u8 0)).setCell ⟨N, 1, none⟩ (.int .i64 c')).setCell ⟨N, 2, none⟩ (.int .i64 b')).heap[N]? = some (.cells #[.int .u8 0, .int .i64 c', .int .i64 b'] 159 (0, 0))) := by
          show _ = _
          rw [blk_set (blk_set (blk_set HX3.out _ _) _ _) _ _]; rfl
        have HWL4 : Hid (Wl w (((W3.setCell ⟨N, 0, none⟩ (.int .u8 0)).setCell ⟨N, 1, none⟩ (.int .i64 c')).setCell ⟨N, 2, none⟩ (.int .i64 b')) S tr en X' dr' T M pv ws u6 H c b kn4 pv3) := by
          obtain ⟨n1, n2, n3⟩ := HNe.out
          have hap := SxO.apart HWL3.out.sx HX3.out (by decide) (by decide) (by decide)
          exact ((HWL3.out.beside n1 n2 n3 hap 0 _).beside n1 n2 n3 hap 1 _).beside n1 n2 n3 hap 2 _
        clear hce hk4 x0 x1 x2 xf HX3 HWL3 HLG3 HX2 HWL2 d2 jA ha1l hkk hdd1 HA1
        generalize ((W3.setCell ⟨N, 0, none⟩ (.int .u8 0)).setCell ⟨N, 1, none⟩ (.int .i64 c')).setCell ⟨N, 2, none⟩ (.int .i64 b') = W4 at HX4 HWL4 ⊢
      case' neg =>
        have d2 : decide ((c : Int) < (en : Int)) = false := by simp; omega
        have HCE := hid hce
        clear hce
        go_upto_region 8 with fail
        obtain ⟨c', hc'⟩ : ∃ c' : Nat, c' = 0 := ⟨_, rfl⟩
        obtain ⟨b', hb'⟩ : ∃ b' : Nat, b' = 0 := ⟨_, rfl⟩
        obtain ⟨kn4, hk4⟩ : ∃ k, k = min a (X'.size - 2) := ⟨_, rfl⟩
        rw [← hk4] at HWL2
        have HNX : Hid ((c' = 0 ∧ c ≠ 0 ∧ kn4 = min a (X'.size - 2)) ∨ (Lg X' (a + 1) c' b' ∧ kn4 = min (a + 1) (X'.size - 2))) := .inl ⟨hc', by have := HCE.out; omega, hk4⟩
        have HX4 : Hid (W2'.heap[N]? = some (.cells #[.int .u8 0, .int .i64 c', .int .i64 b'] 159 (0, 0))) := by rw [hc', hb']; exact HX2
        have HWL4 := HWL2
        clear hk4 hc' hb' HX2 HWL2 d2 HCE
        generalize W2' = W4 at HX4 HWL4 ⊢
        generalize pv' = pv3 at HWL4
      all_goals
        obtain ⟨h0, h1, h2, hf⟩ := cells3w HWL4.out.here
        obtain ⟨x0, x1, x2, xf⟩ := cells3w HX4.out
        obtain ⟨ia, ic, hiv, -⟩ := owns_shape HWL4.out.row
        subst hiv
        have hbase := HWL4.out.fr.env.size
        have HRW := hid HWL4.out.row
        by_cases hlet : c = 0 ∨ c < c'
        · have HNX2 : Hid (Lg X' (a + 1) c' b' ∧ kn4 = min (a + 1) (X'.size - 2)) := by
            rcases HNX.out with ⟨e1, e2, e3⟩ | e
            · exfalso; omega
            · exact e
          obtain ⟨y, hy⟩ : ∃ y, y = byt X' a := ⟨_, rfl⟩
          have i1 := fun u => idx_str X' a hlt u
          rw [← hy] at i1
          have HY := hid hy
          clear hy
          obtain ⟨c0, c1, c2, c3, c4⟩ := HWL4.out.sx.cells
          clear c0 c1 c3 c4
          have HHL : Hid (c = 0 ∨ (c < c' ∧ Lg X' (a + 1) c' b')) := hlet.imp id (fun e => ⟨e, HNX2.out.1⟩)
          by_cases hc0 : (c : Int) = 0
          case' pos =>
            have d3 : ((c : Int) == 0) = true := by simp [hc0]
            clear hc0 hlet
            go_upto_region 9 with fail
          case' neg =>
            have d3 : ((c : Int) == 0) = false := by simp; omega
            have d4 : c < c' := by omega
            clear hc0 hlet
            go_upto_region 9 with fail
          all_goals
            go_upto_region 10 with (at_builtin; refine wpList_append_lies _ rfl (.tmp 44) (.tmp 52) 132 rfl w.heap.size 159 i0 (.agg #[.int .u8 0, .int .i64 0, .int .i64 0]) 3 24 Tryz.underlying132 hi hz0 hz1 hz2 rfl (by decide) (.slice ia ws.length ic) ws.length (wcs ws) rfl (HRW.out.alloc _) ⟨W4.heap.size, 0, none⟩ 1 1 [.int .u8 y, .int .i64 0, .int .i64 0] rfl rfl (by simpa using cells_new W4 #[.int .u8 y, .int .i64 0, .int .i64 0] 159) (by simp [Value.oneCell']) (by omega) (by unfold maxLen; omega) (by omega) (by simp; omega) (W4.heap.size + 1) (by simp) ?_; intro g cap W5 hown hgrow hat hlt5)
            have hwx : wc3 (.lit (byu X' a)) = [.int .u8 y, .int .i64 0, .int .i64 0] := by rw [HY.out]; rfl
            have HWL5 := hid (HWL4.out.push (x := .lit (byu X' a)) (by rw [hwx]; exact hown) hgrow hat)
            have HX5 : Hid (W5.heap[N]? = _) := (hgrow.block N (by have := (Array.getElem?_eq_some_iff.1 HX4.out).1; simp; omega) (fun e => HNe.out.2.2 e.symm)).trans ((Below.heap_alloc _ _ _ (Array.getElem?_eq_some_iff.1 HX4.out).1).trans HX4.out)
            clear h0 h1 h2 hf x0 x1 x2 xf c2 d3 i1 hown hgrow hat hlt5 hwx
            obtain ⟨h0, h1, h2, hf⟩ := cells3w HWL5.out.here
            obtain ⟨x0, x1, x2, xf⟩ := cells3w HX5.out
            obtain ⟨a1, hae⟩ : ∃ a1, a1 = a + 1 := ⟨_, rfl⟩
            have jA : IntKind.i64.wrap ((a : Int) + 1) = (a1 : Int) := by rw [IntKind.wrap_i64]; omega
            have HA1 := hid hae
            clear hae
            go_region_with (fail)
          all_goals
            have HWL6 := hid ((HWL5.out.setHere c' b').below ((Below.refl _ _).drew))
            clear h0 h1 h2 hf x0 x1 x2 xf
            generalize (((W5.setCell ⟨H, 0, none⟩ (.int .u8 0)).setCell ⟨H, 1, none⟩ (.int .i64 c')).setCell ⟨H, 2, none⟩ (.int .i64 b')).drew = W6 at HWL6 ⊢
            obtain ⟨h0, h1, h2, hf⟩ := cells3w HWL6.out.here
            go_wp2
            have e1 := HA1.out
            refine ⟨⟨a1, ws ++ [Wd.lit (byu X' a)], _, c', b', pv3, rfl, rfl, by omega, by omega, ?_, ?_, ?_⟩, by simp [intOf]; omega⟩
            · have := HWL6.out.move
              rw [HNX2.out.2, ← e1] at this
              exact this
            · rw [e1]
              exact HWS.out.lit hlt HLG.out HHL.out
            · rw [e1]
              exact HNX2.out.1
        · have hne : c ≠ 0 := by omega
          have d3 : ((c : Int) == 0) = false := by simp; omega
          have d4 : ¬ c < c' := by omega
          have hl3 : 3 ≤ c := by have := HLG.out.ok; omega
          have hle := HLG.out.le
          clear hlet
          have HKN : Hid (kn4 ≤ a + c) := by
            rcases HNX.out with ⟨e1, e2, e3⟩ | ⟨e1, e2⟩
            · show _ ≤ _; omega
            · show _ ≤ _; omega
          go_upto_region 12 with (at_builtin; refine wpList_append_lies _ rfl (.tmp 57) (.tmp 59) 132 rfl w.heap.size 159 i0 (.agg #[.int .u8 0, .int .i64 0, .int .i64 0]) 3 24 Tryz.underlying132 hi hz0 hz1 hz2 rfl (by decide) (.slice ia ws.length ic) ws.length (wcs ws) rfl (HRW.out.alloc _) ⟨W4.heap.size, 0, none⟩ 1 1 [.int .u8 0, .int .i64 c, .int .i64 b] rfl rfl (by simpa using cells_new W4 #[.int .u8 0, .int .i64 c, .int .i64 b] 159) (by simp [Value.oneCell']) (by omega) (by unfold maxLen; omega) (by omega) (by simp; omega) (W4.heap.size + 1) (by simp) ?_; intro g cap W5 hown hgrow hat hlt5)
          have HWL5 := hid (HWL4.out.push (x := .mat c b) hown hgrow hat)
          clear h0 h1 h2 hf x0 x1 x2 xf d3 d4 hown hgrow hat hlt5
          obtain ⟨h0, h1, h2, hf⟩ := cells3w HWL5.out.here
          obtain ⟨a2, hae⟩ : ∃ a2, a2 = a + c := ⟨_, rfl⟩
          have jA : IntKind.i64.wrap ((a : Int) + (c : Int)) = (a2 : Int) := by rw [IntKind.wrap_i64]; omega
          have ha2l : a2 ≤ X'.size := by omega
          have hkk : kn4 ≤ a2 := by have := HKN.out; omega
          have hdd2 : dr' = 0 ∨ 32768 ≤ a2 := by omega
          have HA2 := hid hae
          clear hae
          go_upto_region 14 with (go_at_call 109; refine (longest_any HWL5.out.sx hXl hdl a2 hkk ha2l hdd2 htr htr2).mono ?_; rintro e W6 ⟨c3, b3, pv6, rfl, hlg, hs6, hf6, hm6⟩; have HLG6 := hid hlg; have HWL6 := hid (HWL5.out.step hs6 hf6 hm6); clear h0 h1 h2 hf; obtain ⟨h0, h1, h2, hf⟩ := cells3w HWL6.out.here; clear hlg hs6 hf6 hm6)
          have HWL7 := hid (HWL6.out.setHere c3 b3)
          clear h0 h1 h2 hf
          generalize ((W6.setCell ⟨H, 0, none⟩ (.int .u8 0)).setCell ⟨H, 1, none⟩ (.int .i64 c3)).setCell ⟨H, 2, none⟩ (.int .i64 b3) = W7 at HWL7 ⊢
          obtain ⟨h0, h1, h2, hf⟩ := cells3w HWL7.out.here
          go_wp2
          have e1 := HA2.out
          refine ⟨⟨a2, ws ++ [Wd.mat c b], _, c3, b3, pv6, rfl, rfl, by omega, by omega, hid HWL7.out.move, ?_, HLG6⟩, by simp [intOf]; omega⟩
          rw [e1]
          exact HWS.out.mat HLG.out hne
    · have d1 : decide ((a : Int) < (X'.size : Int)) = false := by simp; omega
      obtain rfl : a = X'.size := by omega
      go_wp2
      obtain ⟨ao, cp, e1, e2⟩ := own_wseg HWL.out.row
      subst e1
      go_ret
      refine ⟨ao, cp, ws, pv', rfl, e2, HWS.out, ?_, HWL.out.fr, HWL.out.mv⟩
      rw [show X'.size - 2 = min X'.size (X'.size - 2) by omega]
      exact HWL.out.sx
end Go.Proofs.YthdmjmnkhlpnnaaGreatDoor

/-
  Plain: the three ways of a block, as the packer's functions tell them.
-/
namespace Go.Proofs.YthdmjmnkhlpnnaaGreatDoor

theorem pv_asp (p : Nat) (t : List UInt8) : pv (asp p t) = 2 ^ lft p * (t.length + 65536 * (65535 - t.length) + 4294967296 * leN t) := by
  have e16 : (2 : Nat) ^ 16 = 65536 := by decide
  unfold asp
  rw [pv_append, byp_pv]
  simp only [pv, pl, Nat.mul_zero, Nat.add_zero, Nat.zero_add, e16]
  have e : (2 : Nat) ^ (lft p + (16 + 16)) = 2 ^ lft p * 4294967296 := by rw [Nat.pow_add]
  rw [e, Nat.mul_add, Nat.mul_add, Nat.mul_add, Nat.mul_assoc]
/-- a block as it is, behind its first bit -/
theorem asis_pw (V L : Nat) (t : List UInt8) : V + 2 ^ (L + 2 + lft (L + 2)) * (t.length + 65536 * (65535 - t.length) + 4294967296 * leN t) = pw V L ((0, 2) :: asp (L + 2) t) := by
  rw [pw_cons, pw, pv_asp, ← Nat.mul_assoc, ← Nat.pow_add]
  simp only [Nat.mul_zero, Nat.add_zero]
theorem asis_pl (L : Nat) (t : List UInt8) : L + 2 + lft (L + 2) + 32 + 8 * t.length = L + pl ((0, 2) :: asp (L + 2) t) := by
  show _ = L + (2 + pl (asp (L + 2) t))
  rw [asp_pl]
  omega
/-- the words of a piece, behind all that was told -/
structure Wok (hs t : List UInt8) (ws : List Wd) (n : Nat) : Prop where
  ok : okm ws n
  le : n ≤ hs.length
  ex : exw ws hs = hs ++ t
  len : ws.length ≤ 65535
  al : ∀ c, (∀ x, x ∈ hs ++ t → x = c) → 258 * pl (wps zfa zfb ws) ≤ 258 * 52 + 13 * t.length
theorem Ws.wok {X : ByteArray} {hs t : List UInt8} {dr o : Nat} {ws : List Wd} (hX : X.data.toList = hs.drop dr) (hle : dr ≤ hs.length) (ho : o ≤ X.size) (ht : t.length ≤ 65535) (h : Ws (X.extract o X.size ++ ⟨t.toArray⟩) (X.size - o) (X.extract o X.size ++ ⟨t.toArray⟩).size ws) :
    Wok hs t ws (X.size - o) ∧ (X.extract o X.size ++ ⟨t.toArray⟩).data.toList = (hs ++ t).drop (dr + o) ∧ dr + o ≤ hs.length ∧ (X.extract o X.size ++ ⟨t.toArray⟩ : ByteArray).size = X.size - o + t.length := by
  have hxl : X.size = hs.length - dr := by rw [← szl, hX, List.length_drop]
  have e1 : (X.extract o X.size ++ ⟨t.toArray⟩ : ByteArray).data.toList = hs.drop (dr + o) ++ t := by
    rw [ba_app, ba_ext_list, hX, ba_of, hxl, List.take_of_length_le (by rw [List.length_drop]; omega), List.drop_drop]
  have e2 : (X.extract o X.size ++ ⟨t.toArray⟩ : ByteArray).size = X.size - o + t.length := by
    rw [← szl, e1, List.length_append, List.length_drop]
    omega
  have e3 : (hs.drop (dr + o)).length = X.size - o := by rw [List.length_drop]; omega
  have hw := h.wns
  have hl := okm_len ws _ h.ok
  have hex : exw ws (hs.drop (dr + o)) = hs.drop (dr + o) ++ t := by
    have := h.ex
    rw [e1, List.take_left' e3, List.take_of_length_le (by rw [List.length_append, e3, e2]; omega)] at this
    exact this
  refine ⟨⟨h.ok, by omega, ?_, by omega, fun c hc => ?_⟩, ?_, by omega, e2⟩
  · have e4 : hs = hs.take (dr + o) ++ hs.drop (dr + o) := (List.take_append_drop _ _).symm
    have := exw_pre ws (hs.take (dr + o)) (hs.drop (dr + o)) (by rw [e3]; exact h.ok)
    rw [← e4, hex, ← List.append_assoc, ← e4] at this
    exact this
  · have hal : Alk (X.extract o X.size ++ ⟨t.toArray⟩) (X.size - o) := fun j _ h1 h2 => by
      have hm : ∀ i, i < (X.extract o X.size ++ ⟨t.toArray⟩ : ByteArray).size → (X.extract o X.size ++ ⟨t.toArray⟩ : ByteArray).data.toList.getD i 0 = c := fun i hi => by
        rw [← szl, e1] at hi
        rw [e1, List.getD_eq_getElem?_getD, List.getElem?_eq_getElem hi, Option.getD_some]
        apply hc
        have hmem := List.getElem_mem hi
        rcases List.mem_append.1 hmem with q | q
        · exact List.mem_append.2 (.inl (List.mem_of_mem_drop q))
        · exact List.mem_append.2 (.inr q)
      unfold byt
      rw [hm j h2, hm (j - 1) (by omega)]
    have := h.bits hal
    rw [e2] at this
    omega
  · rw [e1, List.drop_append_of_le_length (by omega)]
end Go.Proofs.YthdmjmnkhlpnnaaGreatDoor

/-
  The shorter of two bodies.
-/
namespace Go.Proofs.YthdmjmnkhlpnnaaGreatDoor
open Go.RowKit
theorem three_new (w : World) (a b c : Obj) (cs : Array Value) (t : TypeId) (hc : c = .cells cs t (0, 0)) : (((w.alloc a).alloc b).alloc c).heap[w.heap.size + 1 + 1]? = some (.cells cs t (0, 0)) ∧ Below w.heap.size w (((w.alloc a).alloc b).alloc c) := by
  have e : ((w.alloc a).alloc b).heap.size = w.heap.size + 1 + 1 := by simp
  refine ⟨by rw [← e, hc]; exact heap_alloc_new _ _, (((Below.refl _ w).alloc (Nat.le_refl _) a).alloc (by simp) b).alloc (by simp; omega) c⟩
set_option maxRecDepth 20000 in
set_option maxHeartbeats 400000 in
theorem shorter_any (w : World) (x y : Int) (f g : Fn) (cf cg : Array Value) :
    Calls Tryz.prog 86 #[.agg #[.int .i64 x, .func f #[] cf], .agg #[.int .i64 y, .func g #[] cg]] w fun e w' => e = .returned (if y < x then .agg #[.int .i64 y, .func g #[] cg] else .agg #[.int .i64 x, .func f #[] cf]) ∧ Below w.heap.size w w' := by
  by_cases hc : y < x
  · rw [if_pos hc]
    go_enter Tryz.func86, Tryz.ntmps86
    go_wp2
    have hh := three_new w (.cells #[.int .i64 x, .func f #[] cf] 130) (.cells #[.int .i64 y, .func g #[] cg] 130) (.cells #[.int .i64 y, .func g #[] cg] 130) _ _ rfl
    have x0 := cell_of_row _ _ 0 _ _ _ hh.1
    have x1 := cell_of_row _ _ 1 _ _ _ hh.1
    refine bodyPost_ret (v := .agg #[.int .i64 y, .func g #[] cg]) (by simp [results, Tryz.results86, go_sem, x0, x1]) rfl ⟨rfl, hh.2⟩
  · rw [if_neg hc]
    go_enter Tryz.func86, Tryz.ntmps86
    go_wp2
    have hh := three_new w (.cells #[.int .i64 x, .func f #[] cf] 130) (.cells #[.int .i64 y, .func g #[] cg] 130) (.cells #[.int .i64 x, .func f #[] cf] 130) _ _ rfl
    have x0 := cell_of_row _ _ 0 _ _ _ hh.1
    have x1 := cell_of_row _ _ 1 _ _ _ hh.1
    refine bodyPost_ret (v := .agg #[.int .i64 x, .func f #[] cf]) (by simp [results, Tryz.results86, go_sem, x0, x1]) rfl ⟨rfl, hh.2⟩
/-- which of two -/
def Pck (x : Int) (f : Fn) (cf : Array Value) (y : Int) (g : Fn) (cg : Array Value) (z : Int) (h : Fn) (ch : Array Value) : Prop := (y < x ∧ z = y ∧ h = g ∧ ch = cg) ∨ (x ≤ y ∧ z = x ∧ h = f ∧ ch = cf)
theorem shorter2_any (w : World) (x y : Int) (f g : Fn) (cf cg : Array Value) :
    Calls Tryz.prog 86 #[.agg #[.int .i64 x, .func f #[] cf], .agg #[.int .i64 y, .func g #[] cg]] w fun e w' => ∃ (z : Int) (h : Fn) (ch : Array Value), e = .returned (.agg #[.int .i64 z, .func h #[] ch]) ∧ Pck x f cf y g cg z h ch ∧ Below w.heap.size w w' :=
  (shorter_any w x y f g cf cg).mono fun e w' ⟨h1, h2⟩ => by
    by_cases hc : y < x
    · rw [if_pos hc] at h1
      exact ⟨y, g, cg, h1, .inl ⟨hc, rfl, rfl, rfl⟩, h2⟩
    · rw [if_neg hc] at h1
      exact ⟨x, f, cf, h1, .inr ⟨by omega, rfl, rfl, rfl⟩, h2⟩
end Go.Proofs.YthdmjmnkhlpnnaaGreatDoor

/-
  How many bits counts and lengths come to; the end that is left out.
-/
namespace Go.Proofs.YthdmjmnkhlpnnaaGreatDoor
open Go.RowKit

def lenOfSl : Value → Nat
  | .slice _ n _ => n
  | _ => 0
theorem dot_take_succ (cs zs : List Int) (k : Nat) (h1 : k < cs.length) (h2 : k < zs.length) : dot (cs.take (k + 1)) zs = dot (cs.take k) zs + cs.getD k 0 * zs.getD k 0 := by
  induction cs generalizing zs k with
  | nil => simp at h1
  | cons c cs ih =>
    cases zs with
    | nil => simp at h2
    | cons z zs =>
      cases k with
      | zero =>
        simp only [Nat.zero_add, List.take_succ_cons, List.take_zero, List.getD_cons_zero, dot, dot_nil]
        omega
      | succ k =>
        have := ih zs k (by simpa using h1) (by simpa using h2)
        simp only [List.take_succ_cons, List.getD_cons_succ, dot, this]
        omega
theorem dot_take_end (cs zs : List Int) (k : Nat) (h : cs.length ≤ k ∨ zs.length ≤ k) : dot (cs.take k) zs = dot cs zs := by
  induction cs generalizing zs k with
  | nil => simp
  | cons c cs ih =>
    cases zs with
    | nil => rw [dot_nil', dot_nil']
    | cons z zs =>
      cases k with
      | zero => simp at h
      | succ k => simp only [List.take_succ_cons, dot, ih zs k (by simpa using h)]
theorem dot_bound (cs zs : List Int) (M : Int) (hM : 0 ≤ M) (h1 : ∀ i, 0 ≤ cs.getD i 0 ∧ cs.getD i 0 ≤ M) (h2 : ∀ i, 0 ≤ zs.getD i 0 ∧ zs.getD i 0 ≤ 15) : 0 ≤ dot cs zs ∧ dot cs zs ≤ M * 15 * cs.length := by
  induction cs generalizing zs with
  | nil => rw [dot_nil]; simp
  | cons c cs ih =>
    cases zs with
    | nil => rw [dot_nil']; exact ⟨by omega, Int.mul_nonneg (by omega) (by omega)⟩
    | cons z zs =>
      have a := ih zs (fun i => by have := h1 (i + 1); rwa [List.getD_cons_succ] at this) (fun i => by have := h2 (i + 1); rwa [List.getD_cons_succ] at this)
      have b1 := h1 0
      have b2 := h2 0
      rw [List.getD_cons_zero] at b1 b2
      have p1 : 0 ≤ c * z := Int.mul_nonneg b1.1 b2.1
      have p2 : c * z ≤ M * 15 := Int.mul_le_mul b1.2 b2.2 b2.1 hM
      simp only [dot, List.length_cons]
      have e : M * 15 * ((cs.length + 1 : Nat) : Int) = M * 15 * (cs.length : Int) + M * 15 := by rw [Int.natCast_add, Int.mul_add]; simp
      rw [e]
      omega
set_option maxHeartbeats 800000 in
theorem bitsOf_any (a1 a2 : Option Addr) (c1 c2 : Nat) (cs zs : List Int) (w : World) (h1 : Seg w a1 cs) (h2 : Seg w a2 zs) (l1 : cs.length ≤ 320) (l2 : zs.length ≤ 320) (b1 : ∀ i, 0 ≤ cs.getD i 0 ∧ cs.getD i 0 ≤ 100000) (b2 : ∀ i, 0 ≤ zs.getD i 0 ∧ zs.getD i 0 ≤ 15) :
    Calls Tryz.prog 155 #[.slice a1 cs.length c1, .slice a2 zs.length c2] w fun e w' => e = .returned (.int .i64 (dot cs zs)) ∧ Below w.heap.size w w' := by
  have HB1 := hid b1
  have HB2 := hid b2
  have HD := hid (fun k => dot_bound (cs.take k) zs 100000 (by omega) (fun i => by
    rw [List.getD_eq_getElem?_getD, List.getElem?_take]
    split
    · rw [← List.getD_eq_getElem?_getD]; exact b1 i
    · simp) b2)
  clear b1 b2
  go_enter Tryz.func155, Tryz.ntmps155
  go_wp2
  all_goals
    go_loopw [5, 12] (fun a i wr => ∃ k : Nat, k ≤ cs.length ∧ k ≤ zs.length ∧ i = .int .i64 k ∧ a = .int .i64 (dot (cs.take k) zs) ∧ Hid (Below w.heap.size w wr)) (fun _ i _ => cs.length - (intOf i).toNat)
    case atStart => exact ⟨0, by omega, by omega, rfl, by simp [dot_nil], Below.refl _ _⟩
    case round =>
      obtain ⟨k, hk1, hk2, rfl, rfl, HB⟩ := hrel
      have hd := HD.out k
      have hlen : (cs.take k).length ≤ 320 := by rw [List.length_take]; omega
      by_cases hlt : k < cs.length ∧ k < zs.length
      · obtain ⟨g1, g2⟩ := hlt
        obtain ⟨x1, o1, rfl, f1⟩ := (h1.below HB.out) (by omega)
        obtain ⟨x2, o2, rfl, f2⟩ := (h2.below HB.out) (by omega)
        have y1 := f1 k g1
        have y2 := f2 k g2
        have HE := hid (dot_take_succ cs zs k g1 g2)
        have u1 := HB1.out k
        have u2 := HB2.out k
        obtain ⟨p, hp⟩ : ∃ p, p = cs.getD k 0 := ⟨_, rfl⟩
        obtain ⟨y, hy⟩ : ∃ y, y = zs.getD k 0 := ⟨_, rfl⟩
        rw [← hp] at u1 y1 HE
        rw [← hy] at u2 y2 HE
        have p1 : 0 ≤ p * y := Int.mul_nonneg u1.1 u2.1
        have p2 : p * y ≤ 100000 * 15 := Int.mul_le_mul u1.2 u2.2 u2.1 (by omega)
        obtain ⟨P, hP⟩ : ∃ P, P = p * y := ⟨_, rfl⟩
        have HP := hid hP
        rw [← hP] at p1 p2
        have wp : IntKind.i64.wrap (p * y) = P := by rw [← hP, IntKind.wrap_i64]; omega
        obtain ⟨dd, hdd⟩ : ∃ d, d = dot (cs.take k) zs := ⟨_, rfl⟩
        rw [← hdd] at hd HE ⊢
        have hd2 : dd ≤ 480000000 := by
          have : (100000 : Int) * 15 * ((cs.take k).length : Int) ≤ 100000 * 15 * 320 := Int.mul_le_mul_of_nonneg_left (by omega) (by omega)
          omega
        have wd : IntKind.i64.wrap (dd + P) = dd + P := by rw [IntKind.wrap_i64]; omega
        clear hP hp hy hdd f1 f2 u1 u2 hlen
        go_upto_region 5 with fail
        go_quiet (fail)
        go_wp2
        go_roundw
        case rel => exact ⟨k + 1, by omega, by omega, by simp, by rw [HE.out, HP.out], below_drewN' HB.out _⟩
        case measure => simp [intOf]; omega
      · have he := dot_take_end cs zs k (by omega)
        rw [he]
        go_wp2
        go_ret
        exact ⟨rfl, HB.out⟩
set_option maxHeartbeats 800000 in
theorem withoutEnd_any (ao : Option Addr) (c : Nat) (zs : List Int) (least : Nat) (w : World) (hs : Seg w ao zs) (hm : zs.length ≤ 320) (hl : least ≤ zs.length) (hc : zs.length ≤ c) (h0 : 0 < least) :
    Calls Tryz.prog 159 #[.slice ao zs.length c, .int .i64 least] w fun e w' => ∃ k, e = .returned (.slice ao k c) ∧ least ≤ k ∧ k ≤ zs.length ∧ Cutz zs k ∧ w = w' := by
  go_enter Tryz.func159, Tryz.ntmps159
  go_wp2
  go_loopw [0] (fun v wr => ∃ k : Nat, v = .slice ao k c ∧ least ≤ k ∧ k ≤ zs.length ∧ Hid (Cutz zs k) ∧ w = wr) (fun v _ => lenOfSl v)
  case atStart => exact ⟨zs.length, rfl, hl, Nat.le_refl _, fun j hj => by rw [List.getD_eq_getElem?_getD, List.getElem?_eq_none hj]; rfl, rfl⟩
  case round =>
    obtain ⟨k, rfl, hk1, hk2, HC, rfl⟩ := hrel
    by_cases hgt : least < k
    · obtain ⟨b, off, rfl, hcell⟩ := hs (by omega)
      have x1 := hcell (k - 1) (by omega)
      have e1 : ((k : Int) - 1).toNat = k - 1 := by omega
      have e2 : (k : Int) - 1 = ((k - 1 : Nat) : Int) := by omega
      have HZ : Hid (zs.getD (k - 1) 0 = 0 → Cutz zs (k - 1)) := fun h j hj => by
        by_cases e : j = k - 1
        · rw [e]; exact h
        · exact HC.out j (by omega)
      obtain ⟨z, hz⟩ : ∃ z, z = zs.getD (k - 1) 0 := ⟨_, rfl⟩
      rw [← hz] at x1 HZ
      clear hz
      by_cases h00 : z = 0
      · subst h00
        go_wp2
        exact ⟨⟨k - 1, rfl, by omega, by omega, HZ.out rfl, trivial⟩, by show k - 1 < k; omega⟩
      · have d0 : (z == 0) = false := by simp [h00]
        go_wp2
        go_ret
        exact ⟨k, rfl, hk1, hk2, HC.out, rfl⟩
    · have d1 : decide ((least : Int) < (k : Int)) = false := by simp; omega
      go_wp2
      go_ret
      exact ⟨k, rfl, hk1, hk2, HC.out, rfl⟩
end Go.Proofs.YthdmjmnkhlpnnaaGreatDoor

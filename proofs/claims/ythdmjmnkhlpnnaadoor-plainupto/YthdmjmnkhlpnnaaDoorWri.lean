/-
  The packer's writer of bits in memory: a number more.
-/
import Derived.Test.YthdmjmnkhlpnnaaDoorAdd
import Derived.Laws.BitsAllLaws
import Derived.Deep.DeepCutAuto
import Derived.Deep.AppendLies
import Derived.Deep.RegionLaw
import Derived.Deep.DrawnRows
namespace Go.Proofs.YthdmjmnkhlpnnaaDoor
open Go.RowKit

/-- the writer of bits, the first of a packer's fields: the bytes that are whole, the bits behind them, how many those are -/
structure Wr (w : World) (B : Nat) (ov : Value) (o : List UInt8) (g c : Nat) (pv sv : Value) : Prop where
  blk : w.heap[B]? = some (.cells #[ov, .int .u64 g, .int .i64 c, pv, sv] 81 (0, 0))
  own : w.ownsRow (B + 1) 5 1 ov o.length (bys o)
/-- what a writer's functions leave as it was: every block but the packer's and that of its bytes -/
structure Kw (B : Nat) (ov : Value) (w w' : World) : Prop where
  env : Below 0 w w'
  blk : ∀ k, k < w.heap.size → k ≠ B → some k ≠ ov.ownBlock → w'.heap[k]? = w.heap[k]?
/-- the bytes lie where they lay, or in a new block -/
def Moved (ov ov' : Value) (w : World) : Prop := ov'.ownBlock = ov.ownBlock ∨ ∃ q, w.heap.size ≤ q ∧ ov'.ownBlock = some q
theorem Moved.refl (ov : Value) (w : World) : Moved ov ov w := .inl rfl
theorem Kw.refl (B : Nat) (ov : Value) (w : World) : Kw B ov w w := ⟨Below.refl _ _, fun _ _ _ _ => rfl⟩
theorem Kw.trans {B : Nat} {ov ov' : Value} {a b c : World} (h : Kw B ov a b) (hm : Moved ov ov' a) (k : Kw B ov' b c) : Kw B ov a c :=
  ⟨h.env.trans k.env, fun i hi hB ho => (k.blk i (Nat.lt_of_lt_of_le hi h.env.size) hB (fun e => by
    rcases hm with hm | ⟨q, hq, hm⟩
    · exact ho (e.trans hm)
    · rw [hm] at e; injection e with e; omega)).trans (h.blk i hi hB ho)⟩
theorem Moved.trans {ov ov' ov'' : Value} {a b : World} (h : Moved ov ov' a) (hs : a.heap.size ≤ b.heap.size) (k : Moved ov' ov'' b) : Moved ov ov'' a := by
  rcases k with k | ⟨q, hq, k⟩
  · rcases h with h | ⟨q, hq, h⟩
    · exact .inl (k.trans h)
    · exact .inr ⟨q, hq, k.trans h⟩
  · exact .inr ⟨q, by omega, k⟩
variable {w : World} {B : Nat} {ov : Value} {o : List UInt8} {g c : Nat} {pv sv : Value}
theorem Wr.lt (h : Wr w B ov o g c pv sv) : B < w.heap.size := (Array.getElem?_eq_some_iff.1 h.blk).1
theorem Wr.cell (h : Wr w B ov o g c pv sv) : w.cell? ⟨B, 0, none⟩ = some ov ∧ w.cell? ⟨B, 1, none⟩ = some (.int .u64 g) ∧ w.cell? ⟨B, 2, none⟩ = some (.int .i64 c) ∧ w.cell? ⟨B, 3, none⟩ = some pv ∧ w.cell? ⟨B, 4, none⟩ = some sv := by
  have e := fun j => cell_of_row w B j _ 81 (0, 0) h.blk
  exact ⟨by rw [e]; rfl, by rw [e]; rfl, by rw [e]; rfl, by rw [e]; rfl, by rw [e]; rfl⟩
theorem Wr.free (h : Wr w B ov o g c pv sv) (j : Nat) : w.frozen? ⟨B, j, none⟩ = false := by
  have h' := h.blk
  simp [World.frozen?, h']
theorem Wr.shape (h : Wr w B ov o g c pv sv) : ∃ ao cp, ov = .slice ao o.length cp := by
  obtain ⟨_, ⟨rfl, h0⟩ | ⟨q, cap, cur, rfl, _⟩⟩ := h.own
  · exact ⟨none, 0, by rw [h0]⟩
  · exact ⟨_, _, rfl⟩
theorem Wr.setg (h : Wr w B ov o g c pv sv) (x : Nat) : Wr (w.setCell ⟨B, 1, none⟩ (.int .u64 x)) B ov o x c pv sv := ⟨by rw [blk_set h.blk]; rfl, own_set h.own rfl _⟩
theorem Wr.setc (h : Wr w B ov o g c pv sv) (x : Nat) : Wr (w.setCell ⟨B, 2, none⟩ (.int .i64 x)) B ov o g x pv sv := ⟨by rw [blk_set h.blk]; rfl, own_set h.own rfl _⟩
theorem Kw.set {a : World} (h : Kw B ov a w) (j : Nat) (u : Value) : Kw B ov a (w.setCell ⟨B, j, none⟩ u) :=
  ⟨h.env.setCell (by omega) u, fun k hk hB ho => by rw [Below.heap_setCell _ _ _ _ (by exact hB)]; exact h.blk k hk hB ho⟩
theorem Wr.drewN (h : Wr w B ov o g c pv sv) (n : Nat) : Wr (w.drewN n) B ov o g c pv sv := ⟨h.blk, h.own⟩
theorem Kw.drewN {a : World} (h : Kw B ov a w) (n : Nat) : Kw B ov a (w.drewN n) := ⟨⟨h.env.os, h.env.tape, h.env.output, h.env.size, h.env.block⟩, h.blk⟩

/-- a byte more: behind the append, and behind the store of what it gave -/
theorem Wr.grown (h : Wr w B ov o g c pv sv) {w1 : World} {ob : Obj} (hg : (w.alloc ob).grownBy w1 ov.ownBlock) : w1.heap[B]? = some (.cells #[ov, .int .u64 g, .int .i64 c, pv, sv] 81 (0, 0)) := by
  have hlt := h.lt
  rw [hg.block B (by simp; omega) (fun e => by have := h.own.lt B e.symm; omega)]
  exact (Below.heap_alloc _ _ _ hlt).trans h.blk
theorem Wr.app (h : Wr w B ov o g c pv sv) {w1 : World} {ob : Obj} {nv : Value} {b : UInt8} (hown : w1.ownsRow (B + 1) 5 1 nv (o.length + 1) (bys o ++ [.int .u8 b.toNat])) (hg : (w.alloc ob).grownBy w1 ov.ownBlock) : Wr (w1.setCell ⟨B, 0, none⟩ nv) B nv (o ++ [b]) g c pv sv := by
  refine ⟨?_, ?_⟩
  · rw [blk_set (h.grown hg)]; rfl
  · rw [bys_snoc, List.length_append]
    exact own_set hown rfl _
theorem Kw.app {a : World} (hk : Kw B ov a w) {w1 : World} {ob : Obj} (hg : (w.alloc ob).grownBy w1 ov.ownBlock) : Kw B ov a w1 :=
  ⟨(hk.env.alloc (by omega) ob).grown hg (by omega) (fun _ _ => by omega), fun k hk' hB' ho => by
    have hs := hk.env.size
    rw [hg.block k (by simp; omega) ho, Below.heap_alloc _ _ _ (by omega)]
    exact hk.blk k hk' hB' ho⟩

/-- the first k bytes of a number, the lowest first -/
def byF (T : Nat) : Nat → List UInt8
  | 0 => []
  | k + 1 => byF T k ++ [UInt8.ofNat (T / 256 ^ k % 256)]
theorem byF_length (T k : Nat) : (byF T k).length = k := by
  induction k with
  | zero => rfl
  | succ k ih => rw [byF, List.length_append, ih]; rfl

theorem or_u64 (g x : Nat) (c : Nat) (hc : c ≤ 8) (hg : g < 2 ^ c) (hx : x < 65536) : bits BinOp.or IntKind.u64 (g : Int) ((x : Int) * 2 ^ c) = ((g + x * 2 ^ c : Nat) : Int) := by
  have h1 : 2 ^ c ≤ 2 ^ 8 := Nat.pow_le_pow_right (by omega) hc
  have h2 : (2 : Nat) ^ 8 = 256 := by decide
  have h3 : x * 2 ^ c ≤ 65536 * 256 := Nat.mul_le_mul (by omega) (by omega)
  have h := u64_or_nat g (x * 2 ^ c) (by omega) (by omega)
  have e : g ||| x * 2 ^ c = g + x * 2 ^ c := by
    rw [Nat.or_comm, Nat.mul_comm, Nat.add_comm, Nat.two_pow_add_eq_or_of_lt hg]
  rw [e] at h
  have e4 : ((x * 2 ^ c : Nat) : Int) = (x : Int) * 2 ^ c := by push_cast; rfl
  rw [e4] at h
  exact h

set_option maxRecDepth 20000 in
set_option maxHeartbeats 1600000 in
theorem wnum_raw (w : World) (B : Nat) (ov : Value) (o : List UInt8) (g c : Nat) (pv sv : Value) (v n : Nat) (h : Wr w B ov o g c pv sv) (hc : c < 8) (hg : g < 2 ^ c) (hv : v < 65536) (hn : n ≤ 16) (ho : o.length ≤ 4294967296) :
    Calls Tryd.prog 66 #[.pointer (some ⟨B, 0, none⟩), .int .i64 v, .int .i64 n] w fun e w' => e = .returned (.tuple #[]) ∧ ∃ ov', Wr w' B ov' (o ++ byF (g + v * 2 ^ c) ((c + n) / 8)) ((g + v * 2 ^ c) / 256 ^ ((c + n) / 8)) ((c + n) % 8) pv sv ∧ Kw B ov w w' ∧ Moved ov ov' w := by
  obtain ⟨c0, c1, c2, -, -⟩ := h.cell
  have f1 := h.free 1
  have f2 := h.free 2
  have HW := hid h
  have b1 := or_u64 g v c (by omega) hg hv
  clear h
  go_enter Tryd.func66, Tryd.ntmps66
  obtain ⟨T, hT⟩ : ∃ T, T = g + v * 2 ^ c := ⟨_, rfl⟩
  rw [← hT] at b1 ⊢
  have hT2 : T < 16777216 := by
    have h1 : 2 ^ c ≤ 2 ^ 7 := Nat.pow_le_pow_right (by omega) (by omega)
    have h2 : (2 : Nat) ^ 7 = 128 := by decide
    have h3 : v * 2 ^ c ≤ 65535 * 128 := Nat.mul_le_mul (by omega) (by omega)
    omega
  have w1 : IntKind.u64.wrap (v : Int) = v := by rw [IntKind.wrap_u64]; omega
  have w2 : IntKind.u64.wrap ((v : Int) * 2 ^ c) = (v : Int) * 2 ^ c := by
    have h1 : 2 ^ c ≤ 2 ^ 7 := Nat.pow_le_pow_right (by omega) (by omega)
    have h2 : (2 : Nat) ^ 7 = 128 := by decide
    have h3 : v * 2 ^ c ≤ 65535 * 128 := Nat.mul_le_mul (by omega) (by omega)
    have e4 : ((v * 2 ^ c : Nat) : Int) = (v : Int) * 2 ^ c := by push_cast; rfl
    rw [← e4, IntKind.wrap_u64]
    omega
  clear hT hg
  go_upto_region 0 with fail
  go_cut [17] (fun _ wx => Hid (Wr wx B ov o T c pv sv) ∧ Hid (Kw B ov w wx))
  case first =>
    go_region_with (fail)
    all_goals
      go_wp2
      go_meet
      exact ⟨(HW.out.setg T).drewN 1, ((Kw.refl B ov w).set 1 _).drewN 1⟩
  case rest =>
  obtain ⟨HW1, HK1⟩ := hcut
  clear HW c0 c1 c2 f1 f2 b1 w1 w2
  obtain ⟨c0, c1, c2, -, -⟩ := HW1.out.cell
  have f1 := HW1.out.free 1
  have f2 := HW1.out.free 2
  go_wp2
  have e0 : ((c : Int) + (n : Int)) = ((c + n : Nat) : Int) := by push_cast; rfl
  rw [e0]
  have HW2 := hid (HW1.out.setc (c + n))
  have HK2 := hid (HK1.out.set 2 (.int .i64 ((c + n : Nat) : Int)))
  generalize wc.setCell ⟨B, 2, none⟩ (.int .i64 ((c + n : Nat) : Int)) = W at HW2 HK2 ⊢
  clear HW1 HK1 c0 c1 c2 f1 f2 e0
  obtain ⟨i0, hi, hz0, hz1, hz2⟩ := info_parts info5
  have HZ := hid (And.intro hi (And.intro hz0 (And.intro hz1 hz2)))
  clear hi hz0 hz1 hz2
  obtain ⟨L, hL⟩ : ∃ L, L = c + n := ⟨_, rfl⟩
  rw [← hL] at HW2 ⊢
  have hL24 : L < 24 := by omega
  have HLL := hid hL
  clear hL
  go_loopw [28] (fun _ wr => ∃ (k : Nat) (ov' : Value), 8 * k ≤ L ∧ Hid (Wr wr B ov' (o ++ byF T k) (T / 256 ^ k) (L - 8 * k) pv sv) ∧ Hid (Kw B ov w wr) ∧ Hid (Moved ov ov' w)) (fun _ wr => (intOf ((wr.cell? ⟨B, 2, none⟩).getD (.int .i64 0))).toNat)
  case atStart => exact ⟨0, ov, by omega, by simpa [byF] using HW2, HK2, Moved.refl _ _⟩
  case round =>
    clear HW2 HK2
    obtain ⟨k, ov', hk, hW, hK, hM⟩ := hrel
    obtain ⟨O, hO⟩ : ∃ O, O = o ++ byF T k := ⟨_, rfl⟩
    rw [← hO] at hW
    have HO := hid hO
    have hOl : O.length ≤ 4294967300 := by rw [hO, List.length_append, byF_length]; omega
    clear hO
    obtain ⟨c0, c1, c2, -, -⟩ := hW.out.cell
    obtain ⟨ao, cp, rfl⟩ := hW.out.shape
    obtain ⟨G, hG⟩ : ∃ G, G = T / 256 ^ k := ⟨_, rfl⟩
    rw [← hG] at c1
    have hG2 : G < 16777216 := by rw [hG]; exact Nat.lt_of_le_of_lt (Nat.div_le_self _ _) hT2
    have HG := hid hG
    clear hG
    by_cases h8 : 8 ≤ L - 8 * k
    · obtain ⟨b, hb⟩ : ∃ b : UInt8, b = UInt8.ofNat (T / 256 ^ k % 256) := ⟨_, rfl⟩
      have wb : IntKind.u8.wrap (G : Int) = (b.toNat : Int) := by
        rw [hb, ← HG.out, UInt8.toNat_ofNat', IntKind.wrap_u8]
        omega
      have HBB := hid hb
      clear hb
      go_wp2
      have hBl := hW.out.lt
      have HC1 : Hid (∀ j u, [Value.int .u8 b.toNat][j]? = some u → ((wr.alloc (.cells #[.int .u8 b.toNat] 5)).drew).cell? (Addr.add ⟨wr.heap.size, 0, none⟩ j) = some u) := cell_one_new wr (.int .u8 b.toNat) 5
      have HC2 : Hid (∀ u ∈ [Value.int .u8 b.toNat], u.oneCell' = true) := fun u hu => by simp at hu; subst hu; rfl
      have HC3 : Hid (O.length + 1 ≤ maxLen) := by show _ ≤ _; unfold maxLen; omega
      have HC4 : Hid (B + 1 ≤ ((wr.alloc (.cells #[.int .u8 b.toNat] 5)).drew).heap.size) := by show _ ≤ _; simp; omega
      have HC5 : Hid (((wr.alloc (.cells #[.int .u8 b.toNat] 5)).drew).heap.size = wr.heap.size + 1) := by show _ = _; simp
      go_region_law
        ((refine step_append_lies _ (by rfl) _ _ _ (by rfl) (B + 1) 5 i0 (.int .u8 0) 1 1 Tryd.underlying33 HZ.out.1 HZ.out.2.1 HZ.out.2.2.1 HZ.out.2.2.2 rfl (by decide) (.slice ao O.length cp) O.length (bys O) (by rfl) ((hW.out.own.alloc _).drew)
            ⟨wr.heap.size, 0, none⟩ 1 1 [.int .u8 b.toNat] (by rfl) (by rfl) HC1.out HC2.out
            (by omega) HC3.out (by omega) HC4.out (wr.heap.size + 1) HC5.out ?_; intro gg cap w1 hown1 hgrow hat hlt1; have hgw : (wr.alloc (.cells #[.int .u8 b.toNat] 5)).grownBy w1 (Value.slice ao O.length cp).ownBlock := ⟨hgrow.os, hgrow.tape, hgrow.output, hgrow.size, hgrow.block⟩; have hblk := hW.out.grown hgw; have c0' : w1.cell? ⟨B, 0, none⟩ = some (.slice ao O.length cp) := (by rw [cell_of_row w1 B 0 _ 81 (0, 0) hblk]; rfl); have f0' : w1.frozen? ⟨B, 0, none⟩ = false := (by simp [World.frozen?, hblk]); clear hblk))
      all_goals
        have HA := hid (hW.out.app hown1 hgw)
        have HK' : Hid (Kw B ov w (w1.setCell ⟨B, 0, none⟩ (.slice (some ⟨gg, 0, none⟩) (O.length + 1) cap))) := hK.out.trans hM.out (((Kw.refl B (.slice ao O.length cp) wr).app hgw).set 0 _)
        have HM' : Hid (Moved ov (.slice (some ⟨gg, 0, none⟩) (O.length + 1) cap) w) := hM.out.trans hK.out.env.size (by
          rcases hat with h | h
          · exact .inl h.symm
          · exact .inr ⟨gg, by omega, rfl⟩)
        generalize w1.setCell ⟨B, 0, none⟩ (.slice (some ⟨gg, 0, none⟩) (O.length + 1) cap) = W1 at HA HK' ⊢
        clear c0 c1 c2 c0' f0' hown1 hgrow hgw hat hlt1
        obtain ⟨-, c1, c2, -, -⟩ := HA.out.cell
        have f1 := HA.out.free 1
        have f2 := HA.out.free 2
        have g1 : (G : Int) / 256 = ((G / 256 : Nat) : Int) := by omega
        have g2 : ((L - 8 * k : Nat) : Int) - 8 = ((L - 8 * (k + 1) : Nat) : Int) := by omega
        go_wp2
        have e1 : ((T : Int) / 256 ^ k / 256) = ((T / 256 ^ (k + 1) : Nat) : Int) := by
          rw [Nat.pow_succ, ← Nat.div_div_eq_div_mul]
          push_cast
          rfl
        rw [e1]
        have hWn := (HA.out.setg (T / 256 ^ (k + 1))).setc (L - 8 * (k + 1))
        have eO : O ++ [b] = o ++ byF T (k + 1) := by rw [HO.out, byF, HBB.out, List.append_assoc]
        rw [eO] at hWn
        refine ⟨⟨k + 1, _, by omega, hWn, (HK'.out.set 1 _).set 2 _, HM'⟩, ?_⟩
        rw [hWn.cell.2.2.1, hW.out.cell.2.2.1]
        simp [intOf]
        omega
    · have hk8 : k = L / 8 := by omega
      have hm8 : L - 8 * k = L % 8 := by omega
      have HK8 := hid hk8
      have HM8 := hid hm8
      clear hk8 hm8
      go_wp2
      go_end0
      refine ⟨rfl, .slice ao O.length cp, ?_, hK.out, hM.out⟩
      have h2 : Wr wr B (.slice ao O.length cp) O (T / 256 ^ k) (L - 8 * k) pv sv := hW.out
      have eO : o ++ byF T (L / 8) = O := by rw [HO.out, ← HK8.out]
      rw [HM8.out, HK8.out] at h2
      rw [← HLL.out, eO]
      exact h2
end Go.Proofs.YthdmjmnkhlpnnaaDoor

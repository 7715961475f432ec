/-
  The numbers of the lock in this program.
-/
import Derived.Test.YthdmjmnkhlpnnabGreatDoorZ01
import Derived.Conc.MuLone
import Derived.KernelRfl
import Derived.Test.YthdmjmnkhlpnnabGreatDoorZ34
namespace Go.Proofs.YthdmjmnkhlpnnabGreatDoor

abbrev muLink : Go.Conc.Locks.MuLink := { lock := 16, unlock := 17, ilock := 36, iunlock := 37, lockSlow := 64, unlockSlow := 67, disable := 60, enable := 62, acquire := 63, relMerge := 65, cas32 := 61, add32 := 66, tMutex := 49, tIMutex := 47, tPMutex := 80, tPIMutex := 120, tPI32 := 122, tUP := 124, tNoCopy := 44, tU32 := 45 }
theorem muLib : Go.Conc.Locks.MuLib Tryz.prog muLink :=
  ⟨Tryz.func16, Tryz.func17, Tryz.func36, Tryz.func37, Tryz.func60, Tryz.func62, Tryz.func63, Tryz.func65, Tryz.func61, Tryz.func66, Tryz.underlying47, Tryz.runUnderlying47, Tryz.sizeOf47, Tryz.isAgg47, Tryz.zeroValue47, Tryz.underlying49, Tryz.runUnderlying49, Tryz.sizeOf49, Tryz.isAgg49, Tryz.zeroValue49, Tryz.underlying80, Tryz.runUnderlying80, Tryz.sizeOf80, Tryz.isAgg80, Tryz.zeroValue80, Tryz.underlying120, Tryz.runUnderlying120, Tryz.sizeOf120, Tryz.isAgg120, Tryz.zeroValue120, Tryz.underlying122, Tryz.runUnderlying122, Tryz.sizeOf122, Tryz.isAgg122, Tryz.zeroValue122, Tryz.underlying124, Tryz.runUnderlying124, Tryz.sizeOf124, Tryz.isAgg124, Tryz.zeroValue124, Tryz.underlying44, Tryz.runUnderlying44, Tryz.sizeOf44, Tryz.isAgg44, Tryz.zeroValue44, Tryz.underlying21, Tryz.runUnderlying21, Tryz.sizeOf21, Tryz.isAgg21, Tryz.zeroValue21, (by kernel_rfl)⟩
end Go.Proofs.YthdmjmnkhlpnnabGreatDoor

/-
  The packer's Flush, at any level.
-/
namespace Go.Proofs.YthdmjmnkhlpnnabGreatDoor
open Go.RowKit Go.Maps

/-- a block as it is, of no bytes, that is not the last -/
def eb (p : Nat) : List (Nat × Nat) := [(0, 1), (0, 2)] ++ asp (p + 3) []
theorem eb_pl (p : Nat) : pl (eb p) = 3 + lft (p + 3) + 32 := by
  unfold eb
  rw [pl_append, asp_pl]
  simp only [pl, List.length_nil]
  omega
theorem eb_bl (p : Nat) (t : List UInt8) : Bl p t false [] (eb p) := .raw p t false [] (by simp)
/-- what a Flush writes -/
structure Fls (lv V L : Nat) (hs t : List UInt8) (V' L' : Nat) : Prop where
  st : ∃ V1 L1, ((t = [] ∧ V1 = V ∧ L1 = L) ∨ (0 < t.length ∧ ∃ ps, Bq lv L hs false t ps ∧ V1 = V + 2 ^ L * pv ps ∧ L1 = L + pl ps)) ∧ V' = V1 + 2 ^ L1 * pv (eb L1) ∧ L' = L1 + pl (eb L1)
theorem qflag_any (w : World) (O : Nat → Prop) (B V L : Nat) (t : List UInt8) (lv : Nat) (hs : List UInt8) (b : Bool) (h : Pq w O B V L t lv hs) (hL : L ≤ 34359738368) :
    Calls Tryz.prog 39 #[.pointer (some ⟨B, 0, none⟩), .bool b] w fun e w' => e = .returned (.tuple #[]) ∧ ∃ O', Pq w' O' B (V + 2 ^ L * b.toNat) (L + 1) t lv hs ∧ To O O' w w' := by
  obtain ⟨ov, pv, sv, Os, hW, hp, hn, hv, hO⟩ := h.st
  refine (wflag_any w B ov V L pv sv b hW hL).mono ?_
  rintro e w' ⟨rfl, ov', hb, hk, hm⟩
  exact ⟨rfl, Pq.wrote hW hp hn hv hO hb hk hm⟩
theorem qasis_any (w : World) (O : Nat → Prop) (B V L : Nat) (t : List UInt8) (lv : Nat) (hs : List UInt8) (h : Pq w O B V L t lv hs) (hL : L ≤ 8589934592) (q : Nat) (hq : w.heap[q]? = some (.cells #[.string .empty] 9 (0, 0))) :
    Calls Tryz.prog 75 #[.pointer (some ⟨B, 0, none⟩), .pointer (some ⟨q, 0, none⟩)] w fun e w' => e = .returned (.tuple #[]) ∧ ∃ O', Pq w' O' B (pw V L ((0, 2) :: asp (L + 2) [])) (L + pl ((0, 2) :: asp (L + 2) [])) t lv hs ∧ To O O' w w' := by
  obtain ⟨ov, pv, sv, Os, hW, hp, hn, hv, hO⟩ := h.st
  refine (asIs1_any w B ov V L pv sv q .empty hW hq (by decide) (by omega)).mono ?_
  rintro e w' ⟨rfl, ov', hb, hk, hm⟩
  have e1 := asis_pw V L []
  have e2 := asis_pl L []
  have hb' : Wb w' B ov' (pw V L ((0, 2) :: asp (L + 2) [])) (L + pl ((0, 2) :: asp (L + 2) [])) pv sv := by
    rw [← e1, ← e2]
    exact hb
  exact ⟨rfl, Pq.wrote hW hp hn hv hO hb' hk hm⟩
theorem Pq.blkp {w : World} {O : Nat → Prop} {B V L : Nat} {t : List UInt8} {lv : Nat} {hs : List UInt8} (h : Pq w O B V L t lv hs) : ∃ ov g c pv sv, w.heap[B]? = some (.cells #[ov, .int .u64 g, .int .i64 (c : Nat), pv, sv] 78 (0, 0)) ∧ c = L % 8 := by
  obtain ⟨ov, pv, sv, Os, hW, hp, hn, hv, hO⟩ := h.st
  obtain ⟨o, g, c, hWr, hc, hg, hV, hL⟩ := hW.st
  exact ⟨ov, g, c, pv, sv, hWr.blk, by omega⟩
/-- the search forgets -/
theorem pforget_any (w : World) (O : Nat → Prop) (B V L : Nat) (t : List UInt8) (lv : Nat) (hs : List UInt8) (h : Pq w O B V L t lv hs) (a : Addr) (ha : w.cell? ⟨B, 4, none⟩ = some (.pointer (some a))) :
    Calls Tryz.prog 41 #[.pointer (some a)] w fun e w' => e = .returned (.tuple #[]) ∧ ∃ O', Pq w' O' B V L t lv [] ∧ To O O' w w' := by
  obtain ⟨ov, pv, sv, Os, hW, hp, hn, hv, hO⟩ := h.st
  have hs4 := hW.srch
  rw [ha] at hs4
  injection hs4 with hs4
  subst hs4
  cases hv with
  | some lv hs S X dr T M tv h1 h9 hx hX hle hdr hXs =>
    refine (forget_any w S _ _ _ X _ hx.blk).mono ?_
    rintro e w' ⟨rfl, T', M', hb, ht, hi, hf, hT, hM⟩
    have hz := hf.env.size
    have hsx := Sx.nothing hb ht hi hz
    obtain ⟨o, ho, cs, hB⟩ := hW.row
    have hBS : B ≠ S := fun e => by
      have := hx.blk
      rw [← e, hB] at this
      injection this with this; injection this with _ this; exact absurd this (by decide)
    have hrow : ∀ {v : Value} {n : Nat} {xs : List Value}, w.ownsRow (B + 1) 5 1 v n xs → ∀ k, some k = v.ownBlock → w'.heap[k]? = w.heap[k]? := fun hr k e => by
      obtain ⟨cs', hc⟩ := row_cells hr e
      refine hf.blk k (Array.getElem?_eq_some_iff.1 hc).1 (fun e' => ?_)
      rw [e', hx.blk] at hc
      injection hc with hc; injection hc with _ hc; exact absurd hc (by decide)
    refine ⟨rfl, PqO B ov pv (SxO S T' M' (.slice none 0 0)), ⟨ov, pv, _, _, hW.kept (hf.blk B hW.lt hBS) (hrow ho), owns_kept hp (fun k e => hrow hp k e.symm), hn, .some lv [] S ⟨#[]⟩ 0 T' M' (.slice none 0 0) h1 h9 hsx rfl (Nat.le_refl _) (.inl rfl) (by decide), rfl⟩, hf.mono (fun k e => by rw [hO]; exact .inr (.inr (.inr (.inl e)))), fun k hk => ?_⟩
    rcases hk with e | e | e | e | e | e | e
    · exact .inl (by rw [hO]; exact .inl e)
    · exact .inl (by rw [hO]; exact .inr (.inl e))
    · exact .inl (by rw [hO]; exact .inr (.inr (.inl e)))
    · exact .inl (by rw [hO]; exact .inr (.inr (.inr (.inl e))))
    · exact .inr (by omega)
    · exact .inr (by omega)
    · simp [Value.ownBlock] at e
/-- at level 0 nothing is to be forgotten -/
theorem Pq.nosearch {w : World} {O : Nat → Prop} {B V L : Nat} {t : List UInt8} {lv : Nat} {hs : List UInt8} (h : Pq w O B V L t lv hs) (ha : w.cell? ⟨B, 4, none⟩ = some (.pointer none)) (hs' : List UInt8) : Pq w O B V L t lv hs' := by
  obtain ⟨ov, pv, sv, Os, hW, hp, hn, hv, hO⟩ := h.st
  have hs4 := hW.srch
  rw [ha] at hs4
  injection hs4 with hs4
  subst hs4
  cases hv with
  | none => exact ⟨ov, pv, _, _, hW, hp, hn, .none hs', hO⟩
theorem body_write (a b : Value) (u : World) : (Instr.field 83 (.agg #[a, b]) 1).run Tryz.prog u = .ok b u := by
  cases a <;> cases b <;> kernel_rfl
set_option maxRecDepth 20000 in
set_option maxHeartbeats 3200000 in
theorem pflush_any (w : World) (O : Nat → Prop) (B V L : Nat) (t : List UInt8) (lv : Nat) (hs : List UInt8) (full : Bool) (h : Pq w O B V L t lv hs) (ht : t.length ≤ 65535) (hL : L ≤ 4294967296) (hsl : hs.length ≤ 100000000000) (hg : Gk w O) :
    Calls Tryz.prog 19 #[.pointer (some ⟨B, 0, none⟩), .bool full] w fun e w' => e = .returned (.tuple #[]) ∧ ∃ V' L' O', Fls lv V L hs t V' L' ∧ Pq w' O' B V' L' [] lv (if full then [] else hs ++ t) ∧ To O O' w w' := by
  obtain ⟨ov, pa, pc, sp, c0, c3, c4, f⟩ := h.cells
  have HP := hid h
  have HG := hid hg
  clear h hg c0 c4 f
  go_enter Tryz.func19, Tryz.ntmps19
  go_upto_if 9 with fail
  go_cut [9] (fun _ wx => ∃ (V1 L1 : Nat) (O1 : Nat → Prop), L1 ≤ 4294967296 + 600000 ∧ Hid ((t = [] ∧ V1 = V ∧ L1 = L) ∨ (0 < t.length ∧ ∃ ps, Bq lv L hs false t ps ∧ V1 = V + 2 ^ L * pv ps ∧ L1 = L + pl ps)) ∧ Hid (Pq wx O1 B V1 L1 [] lv (hs ++ t)) ∧ Hid (To O O1 w wx))
  case first =>
    by_cases h0 : t = []
    · subst h0
      go_wp2
      go_meet
      exact ⟨V, L, O, by omega, .inl ⟨trivial, rfl, rfl⟩, by rw [List.append_nil]; exact HP, To.refl _ _⟩
    · have hl : 0 < t.length := by cases t with
        | nil => exact absurd rfl h0
        | cons a b => simp
      have d0 : decide ((0 : Int) < (t.length : Int)) = true := by simp; omega
      have HBK := hid (pblock_any w O B V L t false lv hs HP.out ht (by omega) (by omega) HG.out.glo HG.out.out)
      go_wp2_with (go_at_call 38; refine HBK.out.mono ?_; rintro e w6 ⟨rfl, ps, O3, hbq, hp6, hk6⟩)
      go_meet
      refine ⟨_, _, O3, ?_, .inr ⟨hl, ps, hbq, rfl, rfl⟩, hp6, hk6⟩
      have := hbq.raw
      have : lft (L + 3) ≤ 7 := by unfold lft; omega
      omega
  case rest =>
    obtain ⟨V1, L1, O1, hL1, HV, HP1, HK1⟩ := hcut
    clear c3 HP
    go_upto_region 3 with (go_at_call 39; refine (qflag_any wc O1 B V1 L1 [] lv _ false HP1.out (by omega)).mono ?_; rintro e w2 ⟨rfl, O2, hp2, hk2⟩; have HP2 := hid hp2; have HK2 := hid hk2; clear hp2 hk2)
    obtain ⟨ov2, g2, c2, pv2, sv2, hb2, hc2⟩ := HP2.out.blkp
    have cc : w2.cell? ⟨B, 2, none⟩ = some (.int .i64 (c2 : Nat)) := by rw [cell_of_row _ _ 2 _ _ _ hb2]; rfl
    have hc8 : c2 < 8 := by omega
    have hfd := body_write
    have HPD : Hid (Pq w2.drew O2 B (V1 + 2 ^ L1 * false.toNat) (L1 + 1) [] lv (hs ++ t)) := HP2.out.below (Below.refl _ w2).drew
    clear hb2 hc2
    go_region_with (first | (go_at_call 75; refine (qasis_any w3 O2 B _ _ _ _ _ HP3.out (by omega) q HQ.out).mono ?_; rintro e w4 ⟨rfl, O4, hp4, hk4⟩; have HP4 := hid hp4; have HK4 := hid hk4; clear hp4 hk4) | (go_at_call 40; refine (asIs_any w2.drew .empty c2 hc8 (by decide)).mono ?_; rintro e w3 ⟨q, rfl, hq, hqb, hb3⟩; have HQ := hid hqb; have HP3 := hid (HPD.out.below hb3); have HB3 := hid hb3; clear hqb hb3))
    all_goals
      clear cc hfd
      obtain ⟨ov4, pa4, pc4, sp4, c0, c3, c4, f4⟩ := HP4.out.cells
      clear c0 c3 f4
      have HP5 : Hid (Pq w4 O4 B (V1 + 2 ^ L1 * pv (eb L1)) (L1 + pl (eb L1)) [] lv (hs ++ t)) := by
        have h4 := HP4.out
        rw [pw_two, pl_two L1 (false.toNat)] at h4
        exact h4
      have HKA := hid (((HK1.out.trans HK2.out).below ((Below.refl _ w2).drew.trans HB3.out)).trans HK4.out)
      cases full with
      | false =>
        go_wp2
        go_end0
        exact ⟨rfl, _, _, ⟨V1, L1, HV.out, rfl, rfl⟩, O4, HP5.out, HKA.out⟩
      | true =>
        cases sp4 with
        | none =>
          go_wp2
          go_end0
          exact ⟨rfl, _, _, ⟨V1, L1, HV.out, rfl, rfl⟩, O4, HP5.out.nosearch c4 [], HKA.out⟩
        | some a =>
          have HFG := hid (pforget_any w4 O4 B _ _ _ _ _ HP5.out a c4)
          go_wp2_with (go_at_call 41; refine HFG.out.mono ?_; rintro e w5 ⟨rfl, O5, hp5, hk5⟩)
          go_end0
          exact ⟨rfl, _, _, ⟨V1, L1, HV.out, rfl, rfl⟩, O5, hp5, HKA.out.trans hk5⟩
end Go.Proofs.YthdmjmnkhlpnnabGreatDoor

/-
  The stream's calls in memory: New, Write, Flush, Close, Take.
-/
namespace Go.Proofs.YthdmjmnkhlpnnabGreatDoor
open Go.RowKit Go.Maps Go.MuLone

theorem Pq.apart {w : World} {O : Nat → Prop} {B V L : Nat} {t : List UInt8} {lv : Nat} {hs : List UInt8} (h : Pq w O B V L t lv hs) {k : Nat} {cs : Array Value} {T : TypeId} {fr : Nat × Nat} (hk : w.heap[k]? = some (.cells cs T fr)) (h1 : T ≠ 119) (h2 : T ≠ 181) (h3 : T ≠ 239) (h4 : T ≠ 78) (h5 : T ≠ 5) : ¬ O k := by
  obtain ⟨ov, pv, sv, Os, hW, hp, hn, hv, rfl⟩ := h.st
  obtain ⟨o, ho, cs', hB⟩ := hW.row
  rintro (e | e | e | e)
  · rw [e, hB] at hk
    injection hk with hk; injection hk with _ hk; exact h4 hk.symm
  · obtain ⟨c2, hc⟩ := row_cells ho e
    rw [hc] at hk
    injection hk with hk; injection hk with _ hk; exact h5 hk.symm
  · obtain ⟨c2, hc⟩ := row_cells hp e
    rw [hc] at hk
    injection hk with hk; injection hk with _ hk; exact h5 hk.symm
  · exact hv.apart hk h1 h2 h3 e
/-- a stream's block -/
def zcells (s : Int) (B : Nat) (c : Bool) : Array Value := #[.int .i32 s, .int .u32 0, .pointer (some ⟨B, 0, none⟩), .bool c]
def SmO (Z : Nat) (O : Nat → Prop) (k : Nat) : Prop := k = Z ∨ O k
/-- a stream: what it has written and not handed out, what waits, its level, what its search was told, and whether it is closed -/
structure Sm (w : World) (O : Nat → Prop) (Z V L : Nat) (t : List UInt8) (lv : Nat) (hs : List UInt8) (c : Bool) : Prop where
  st : ∃ (B : Nat) (Op : Nat → Prop), O = SmO Z Op ∧ w.heap[Z]? = some (.cells (zcells 0 B c) 51 (0, 0)) ∧ Pq w Op B V L t lv hs
theorem Sm.olt {w : World} {O : Nat → Prop} {Z V L : Nat} {t : List UInt8} {lv : Nat} {hs : List UInt8} {c : Bool} (h : Sm w O Z V L t lv hs c) {k : Nat} (hk : O k) : k < w.heap.size := by
  obtain ⟨B, Op, rfl, hz, hp⟩ := h.st
  rcases hk with e | e
  · rw [e]; exact (Array.getElem?_eq_some_iff.1 hz).1
  · exact hp.olt e
theorem Sm.kept {w w' : World} {O : Nat → Prop} {Z V L : Nat} {t : List UInt8} {lv : Nat} {hs : List UInt8} {c : Bool} (h : Sm w O Z V L t lv hs c) (hk : ∀ k, O k → w'.heap[k]? = w.heap[k]?) (hz : w.heap.size ≤ w'.heap.size) : Sm w' O Z V L t lv hs c := by
  obtain ⟨B, Op, rfl, hb, hp⟩ := h.st
  exact ⟨B, Op, rfl, (hk Z (.inl rfl)).trans hb, hp.kept (fun k e => hk k (.inr e)) hz⟩
theorem Sm.below {w w' : World} {O : Nat → Prop} {Z V L : Nat} {t : List UInt8} {lv : Nat} {hs : List UInt8} {c : Bool} (h : Sm w O Z V L t lv hs c) (hb : Below w.heap.size w w') : Sm w' O Z V L t lv hs c := h.kept (fun _ hk => hb.block _ (h.olt hk)) hb.size
/-- the lock is taken -/
structure Lkd (w : World) (Z B : Nat) (Op : Nat → Prop) (c : Bool) (V L : Nat) (t : List UInt8) (lv : Nat) (hs : List UInt8) (w1 : World) : Prop where
  blk : w1.heap[Z]? = some (.cells (zcells 1 B c) 51 (0, 0))
  pk : Pq w1 Op B V L t lv hs
  kt : To (SmO Z Op) (SmO Z Op) w w1
theorem zblk_cells {w : World} {Z B : Nat} {s : Int} {c : Bool} (h : w.heap[Z]? = some (.cells (zcells s B c) 51 (0, 0))) : w.cell? ⟨Z, 0, none⟩ = some (.int .i32 s) ∧ w.cell? ⟨Z, 2, none⟩ = some (.pointer (some ⟨B, 0, none⟩)) ∧ w.cell? ⟨Z, 3, none⟩ = some (.bool c) ∧ ∀ j, w.frozen? ⟨Z, j, none⟩ = false :=
  ⟨by rw [cell_of_row _ _ 0 _ _ _ h]; rfl, by rw [cell_of_row _ _ 2 _ _ _ h]; rfl, by rw [cell_of_row _ _ 3 _ _ _ h]; rfl, fun j => by simp [World.frozen?, h]⟩
theorem zapart {w : World} {Op : Nat → Prop} {B V L : Nat} {t : List UInt8} {lv : Nat} {hs : List UInt8} (h : Pq w Op B V L t lv hs) {Z : Nat} {cs : Array Value} (hz : w.heap[Z]? = some (.cells cs 51 (0, 0))) : ¬ Op Z := h.apart hz (by decide) (by decide) (by decide) (by decide) (by decide)
theorem Pq.setz {w : World} {Op : Nat → Prop} {B V L : Nat} {t : List UInt8} {lv : Nat} {hs : List UInt8} (h : Pq w Op B V L t lv hs) {Z : Nat} {cs : Array Value} (hz : w.heap[Z]? = some (.cells cs 51 (0, 0))) (j : Nat) (v : Value) : Pq (w.setCell ⟨Z, j, none⟩ v) Op B V L t lv hs :=
  h.kept (fun k hk => Below.heap_setCell _ _ _ _ (fun e => zapart h hz ((show k = Z from e) ▸ hk))) (by simp)
theorem lkd_of {w : World} {Z B : Nat} {Op : Nat → Prop} {c : Bool} {V L : Nat} {t : List UInt8} {lv : Nat} {hs : List UInt8} (hz : w.heap[Z]? = some (.cells (zcells 0 B c) 51 (0, 0))) (hp : Pq w Op B V L t lv hs) : Lkd w Z B Op c V L t lv hs (w.setCell ⟨Z, 0, none⟩ (.int .i32 1)) :=
  ⟨by rw [blk_set hz]; rfl, hp.setz hz 0 _, ⟨(Fr.refl _ w).set ⟨Z, 0, none⟩ (.inl rfl) _, fun k hk => .inl hk⟩⟩
/-- from a packer's blocks to the stream's -/
theorem To.sm {Op Op' : Nat → Prop} {w w' : World} (Z : Nat) (h : To Op Op' w w') : To (SmO Z Op) (SmO Z Op') w w' :=
  ⟨h.fr.mono (fun k e => .inr e), fun k hk => by
    rcases hk with e | e
    · exact .inl (.inl e)
    · rcases h.new k e with e | e
      · exact .inl (.inr e)
      · exact .inr e⟩
theorem Gk.sm {w w1 : World} {Z : Nat} {Op : Nat → Prop} (h : Gk w (SmO Z Op)) (k : To (SmO Z Op) (SmO Z Op) w w1) : Gk w1 Op :=
  ⟨(h.to k).glo, fun e => h.out (.inr e)⟩
theorem To.zblk {Op Op' : Nat → Prop} {w w' : World} (h : To Op Op' w w') {B V L : Nat} {t : List UInt8} {lv : Nat} {hs : List UInt8} (hp : Pq w Op B V L t lv hs) {Z : Nat} {cs : Array Value} (hz : w.heap[Z]? = some (.cells cs 51 (0, 0))) : w'.heap[Z]? = some (.cells cs 51 (0, 0)) :=
  (h.fr.blk Z (Array.getElem?_eq_some_iff.1 hz).1 (zapart hp hz)).trans hz
/-- the lock is let go -/
theorem sm_of {w w2 : World} {Z B : Nat} {Op Op' : Nat → Prop} {c : Bool} {V L : Nat} {t : List UInt8} {lv : Nat} {hs : List UInt8} (hz : w2.heap[Z]? = some (.cells (zcells 1 B c) 51 (0, 0))) (hp : Pq w2 Op' B V L t lv hs) (hk : To (SmO Z Op) (SmO Z Op') w w2) : Sm (w2.setCell ⟨Z, 0, none⟩ (.int .i32 0)) (SmO Z Op') Z V L t lv hs c ∧ To (SmO Z Op) (SmO Z Op') w (w2.setCell ⟨Z, 0, none⟩ (.int .i32 0)) :=
  ⟨⟨B, Op', rfl, by rw [blk_set hz]; rfl, hp.setz hz 0 _⟩, ⟨hk.fr.set ⟨Z, 0, none⟩ (.inl rfl) _, hk.new⟩⟩
set_option maxRecDepth 20000 in
set_option maxHeartbeats 1600000 in
theorem smwrite_any (w : World) (O : Nat → Prop) (Z V L : Nat) (t : List UInt8) (lv : Nat) (hs : List UInt8) (S : ByteArray) (h : Sm w O Z V L t lv hs false) (ht : t.length ≤ 65535) (hS : S.size ≤ 16777216) (hL : L ≤ 4294967296) (hsl : hs.length ≤ 100000000000) (hg : Gk w O) :
    Calls Tryz.prog 8 #[.pointer (some ⟨Z, 0, none⟩), .string S] w fun e w' => e = .returned (.int .i64 0) ∧ ∃ V' L' t' hs' O' m, Sm w' O' Z V' L' t' lv hs' false ∧ Wfl lv V L hs m V' L' hs' ∧ hs' ++ t' = hs ++ t ++ S.data.toList ∧ t'.length ≤ 65535 ∧ To O O' w w' := by
  obtain ⟨B, Op, rfl, hz, hp⟩ := h.st
  obtain ⟨c0, -, -, f0⟩ := zblk_cells hz
  have hlk := lkd_of hz hp
  obtain ⟨k0, k2, k3, kf⟩ := zblk_cells hlk.blk
  have HLK := hid hlk
  have HA := hid (paddf_any _ Op B V L t lv hs S hlk.pk ht hS hL hsl (hg.sm hlk.kt))
  have fz := f0 0
  clear h hz hp hlk hg f0 kf k0
  go_enter_defers Tryz.func8, Tryz.ntmps8
  go_wp2_with (first
    | (go_at_call 16; refine (lock_free muLib ⟨Z, 0, none⟩ _ c0 fz).mono ?_; rintro e w' ⟨rfl, rfl⟩)
    | (go_at_call 18; refine HA.out.mono ?_; rintro e w2 ⟨rfl, V', L', t', hs', Op', m, hp2, hw2, ht2, hl2, -, -, -, hk2⟩; have HZ2 := hid (hk2.zblk HLK.out.pk HLK.out.blk); have HP2 := hid hp2; have HR2 := hid (And.intro hw2 (And.intro ht2 hl2)); have HK2 := hid (HLK.out.kt.trans (hk2.sm Z)); clear hp2 hw2 ht2 hl2 hk2))
  refine leaves_cons (f := 17) (args := #[.pointer (some ⟨Z, 0, none⟩)]) (by simp) (by simp [go_sem]) ?_
  refine (unlock_deferred muLib ⟨Z, 0, none⟩ .returning _ (zblk_cells HZ2.out).1 ((zblk_cells HZ2.out).2.2.2 0)).mono ?_
  rintro e u' w'' ⟨rfl, rfl, rfl⟩
  obtain ⟨h1, h2⟩ := sm_of HZ2.out HP2.out HK2.out
  exact ⟨_, results_tmp rfl _ _ _, rfl, _, _, _, _, _, m, h1, HR2.out.1, HR2.out.2.1, HR2.out.2.2, h2⟩
set_option maxRecDepth 20000 in
set_option maxHeartbeats 1600000 in
theorem smflush_any (w : World) (O : Nat → Prop) (Z V L : Nat) (t : List UInt8) (lv : Nat) (hs : List UInt8) (full : Bool) (h : Sm w O Z V L t lv hs false) (ht : t.length ≤ 65535) (hL : L ≤ 4294967296) (hsl : hs.length ≤ 100000000000) (hg : Gk w O) :
    Calls Tryz.prog 9 #[.pointer (some ⟨Z, 0, none⟩), .bool full] w fun e w' => e = .returned (.int .i64 0) ∧ ∃ V' L' O', Fls lv V L hs t V' L' ∧ Sm w' O' Z V' L' [] lv (if full then [] else hs ++ t) false ∧ To O O' w w' := by
  obtain ⟨B, Op, rfl, hz, hp⟩ := h.st
  obtain ⟨c0, -, -, f0⟩ := zblk_cells hz
  have hlk := lkd_of hz hp
  obtain ⟨k0, k2, k3, kf⟩ := zblk_cells hlk.blk
  have HLK := hid hlk
  have HA := hid (pflush_any _ Op B V L t lv hs full hlk.pk ht hL hsl (hg.sm hlk.kt))
  obtain ⟨hx, hhx⟩ : ∃ x : List UInt8, x = if full then [] else hs ++ t := ⟨_, rfl⟩
  rw [← hhx] at HA ⊢
  clear hhx
  have fz := f0 0
  clear h hz hp hlk hg f0 kf k0
  go_enter_defers Tryz.func9, Tryz.ntmps9
  go_wp2_with (first
    | (go_at_call 16; refine (lock_free muLib ⟨Z, 0, none⟩ _ c0 fz).mono ?_; rintro e w' ⟨rfl, rfl⟩)
    | (go_at_call 19; refine HA.out.mono ?_; rintro e w2 ⟨rfl, V', L', Op', hf2, hp2, hk2⟩; have HZ2 := hid (hk2.zblk HLK.out.pk HLK.out.blk); have HP2 := hid hp2; have HR2 := hid hf2; have HK2 := hid (HLK.out.kt.trans (hk2.sm Z)); clear hp2 hf2 hk2))
  refine leaves_cons (f := 17) (args := #[.pointer (some ⟨Z, 0, none⟩)]) (by simp) (by simp [go_sem]) ?_
  refine (unlock_deferred muLib ⟨Z, 0, none⟩ .returning _ (zblk_cells HZ2.out).1 ((zblk_cells HZ2.out).2.2.2 0)).mono ?_
  rintro e u' w'' ⟨rfl, rfl, rfl⟩
  obtain ⟨h1, h2⟩ := sm_of HZ2.out HP2.out HK2.out
  exact ⟨_, results_tmp rfl _ _ _, rfl, _, _, _, HR2.out, h1, h2⟩
set_option maxRecDepth 20000 in
set_option maxHeartbeats 1600000 in
theorem smclose_any (w : World) (O : Nat → Prop) (Z V L : Nat) (t : List UInt8) (lv : Nat) (hs : List UInt8) (h : Sm w O Z V L t lv hs false) (ht : t.length ≤ 65535) (hL : L ≤ 4294967296) (hsl : hs.length ≤ 100000000000) (hg : Gk w O) :
    Calls Tryz.prog 12 #[.pointer (some ⟨Z, 0, none⟩)] w fun e w' => e = .returned (.int .i64 0) ∧ ∃ ps O', Bq lv L hs true t ps ∧ Sm w' O' Z (V + 2 ^ L * pv ps) (L + pl ps + lft (L + pl ps)) [] 0 [] true ∧ To O O' w w' := by
  obtain ⟨B, Op, rfl, hz, hp⟩ := h.st
  obtain ⟨c0, -, -, f0⟩ := zblk_cells hz
  have hlk := lkd_of hz hp
  have hc2 : ((w.setCell ⟨Z, 0, none⟩ (.int .i32 1)).setCell ⟨Z, 3, none⟩ (.bool true)).heap[Z]? = some (.cells (zcells 1 B true) 51 (0, 0)) := by rw [blk_set hlk.blk]; rfl
  have hp2 := hlk.pk.setz hlk.blk 3 (.bool true)
  have hk2 : To (SmO Z Op) (SmO Z Op) w ((w.setCell ⟨Z, 0, none⟩ (.int .i32 1)).setCell ⟨Z, 3, none⟩ (.bool true)) := ⟨hlk.kt.fr.set ⟨Z, 3, none⟩ (.inl rfl) _, hlk.kt.new⟩
  obtain ⟨-, j2, -, -⟩ := zblk_cells hc2
  have HC2 := hid (And.intro hc2 (And.intro hp2 hk2))
  obtain ⟨k0, k2, k3, kf⟩ := zblk_cells hlk.blk
  have HLK := hid hlk
  have HA := hid (pend2_any _ Op B V L t lv hs hp2 ht (by omega) (by omega) (hg.sm hk2))
  have fz := f0 0
  have fz3 := kf 3
  clear h hz hp hlk hg f0 kf k0 hc2 hp2 hk2
  go_enter_defers Tryz.func12, Tryz.ntmps12
  go_wp2_with (first
    | (go_at_call 16; refine (lock_free muLib ⟨Z, 0, none⟩ _ c0 fz).mono ?_; rintro e w' ⟨rfl, rfl⟩)
    | (go_at_call 26; refine HA.out.mono ?_; rintro e w2 ⟨rfl, ps, Op', hb2, hp2, hk2⟩; have HZ2 := hid (hk2.zblk HC2.out.2.1 HC2.out.1); have HP2 := hid hp2; have HR2 := hid hb2; have HK2 := hid (HC2.out.2.2.trans (hk2.sm Z)); clear hp2 hb2 hk2))
  refine leaves_cons (f := 17) (args := #[.pointer (some ⟨Z, 0, none⟩)]) (by simp) (by simp [go_sem]) ?_
  refine (unlock_deferred muLib ⟨Z, 0, none⟩ .returning _ (zblk_cells HZ2.out).1 ((zblk_cells HZ2.out).2.2.2 0)).mono ?_
  rintro e u' w'' ⟨rfl, rfl, rfl⟩
  obtain ⟨h1, h2⟩ := sm_of HZ2.out HP2.out HK2.out
  exact ⟨_, results_tmp rfl _ _ _, rfl, _, _, HR2.out, h1, h2⟩
set_option maxRecDepth 20000 in
set_option maxHeartbeats 1600000 in
theorem smtake_any (w : World) (O : Nat → Prop) (Z V L : Nat) (t : List UInt8) (lv : Nat) (hs : List UInt8) (c : Bool) (h : Sm w O Z V L t lv hs c) :
    Calls Tryz.prog 10 #[.pointer (some ⟨Z, 0, none⟩)] w fun e w' => ∃ (o : List UInt8) (g k : Nat), e = .returned (.string ⟨o.toArray⟩) ∧ k < 8 ∧ g < 2 ^ k ∧ V = leN o + 256 ^ o.length * g ∧ L = 8 * o.length + k ∧ ∃ O', Sm w' O' Z g k t lv hs c ∧ To O O' w w' := by
  obtain ⟨B, Op, rfl, hz, hp⟩ := h.st
  obtain ⟨c0, -, -, f0⟩ := zblk_cells hz
  have hlk := lkd_of hz hp
  obtain ⟨k0, k2, k3, kf⟩ := zblk_cells hlk.blk
  have HLK := hid hlk
  have HA := hid (ptake_any _ Op B V L t lv hs hlk.pk)
  have fz := f0 0
  clear h hz hp hlk f0 kf k0
  go_enter_defers Tryz.func10, Tryz.ntmps10
  go_wp2_with (first
    | (go_at_call 16; refine (lock_free muLib ⟨Z, 0, none⟩ _ c0 fz).mono ?_; rintro e w' ⟨rfl, rfl⟩)
    | (go_at_call 20; refine HA.out.mono ?_; rintro e w2 ⟨o, g, k, rfl, h1, h2, h3, h4, Op', hp2, hk2⟩; have HZ2 := hid (hk2.zblk HLK.out.pk HLK.out.blk); have HP2 := hid hp2; have HR2 := hid (And.intro h1 (And.intro h2 (And.intro h3 h4))); have HK2 := hid (HLK.out.kt.trans (hk2.sm Z)); clear hp2 h1 h2 h3 h4 hk2))
  refine leaves_cons (f := 17) (args := #[.pointer (some ⟨Z, 0, none⟩)]) (by simp) (by simp [go_sem]) ?_
  refine (unlock_deferred muLib ⟨Z, 0, none⟩ .returning _ (zblk_cells HZ2.out).1 ((zblk_cells HZ2.out).2.2.2 0)).mono ?_
  rintro e u' w'' ⟨rfl, rfl, rfl⟩
  obtain ⟨h1, h2⟩ := sm_of HZ2.out HP2.out HK2.out
  exact ⟨_, results_tmp rfl _ _ _, o, g, k, rfl, HR2.out.1, HR2.out.2.1, HR2.out.2.2.1, HR2.out.2.2.2, _, h1, h2⟩
set_option maxRecDepth 20000 in
set_option maxHeartbeats 1600000 in
theorem smwriteC_any (w : World) (O : Nat → Prop) (Z V L : Nat) (t : List UInt8) (lv : Nat) (hs : List UInt8) (S : ByteArray) (h : Sm w O Z V L t lv hs true) :
    Calls Tryz.prog 8 #[.pointer (some ⟨Z, 0, none⟩), .string S] w fun e w' => e = .returned (.int .i64 10) ∧ Sm w' O Z V L t lv hs true ∧ To O O w w' := by
  obtain ⟨B, Op, rfl, hz, hp⟩ := h.st
  obtain ⟨c0, -, -, f0⟩ := zblk_cells hz
  have hlk := lkd_of hz hp
  obtain ⟨k0, k2, k3, kf⟩ := zblk_cells hlk.blk
  have HLK := hid hlk
  have HZ2 := hid hlk.blk
  have fz := f0 0
  clear h hz hp hlk f0 kf k0 k2
  go_enter_defers Tryz.func8, Tryz.ntmps8
  go_wp2_with (go_at_call 16; refine (lock_free muLib ⟨Z, 0, none⟩ _ c0 fz).mono ?_; rintro e w' ⟨rfl, rfl⟩)
  refine leaves_cons (f := 17) (args := #[.pointer (some ⟨Z, 0, none⟩)]) (by simp) (by simp [go_sem]) ?_
  refine (unlock_deferred muLib ⟨Z, 0, none⟩ .returning _ (zblk_cells HZ2.out).1 ((zblk_cells HZ2.out).2.2.2 0)).mono ?_
  rintro e u' w'' ⟨rfl, rfl, rfl⟩
  obtain ⟨h1, h2⟩ := sm_of HZ2.out HLK.out.pk HLK.out.kt
  exact ⟨_, results_tmp rfl _ _ _, rfl, h1, h2⟩
set_option maxRecDepth 20000 in
set_option maxHeartbeats 1600000 in
theorem smflushC_any (w : World) (O : Nat → Prop) (Z V L : Nat) (t : List UInt8) (lv : Nat) (hs : List UInt8) (full : Bool) (h : Sm w O Z V L t lv hs true) :
    Calls Tryz.prog 9 #[.pointer (some ⟨Z, 0, none⟩), .bool full] w fun e w' => e = .returned (.int .i64 10) ∧ Sm w' O Z V L t lv hs true ∧ To O O w w' := by
  obtain ⟨B, Op, rfl, hz, hp⟩ := h.st
  obtain ⟨c0, -, -, f0⟩ := zblk_cells hz
  have hlk := lkd_of hz hp
  obtain ⟨k0, k2, k3, kf⟩ := zblk_cells hlk.blk
  have HLK := hid hlk
  have HZ2 := hid hlk.blk
  have fz := f0 0
  clear h hz hp hlk f0 kf k0 k2
  go_enter_defers Tryz.func9, Tryz.ntmps9
  go_wp2_with (go_at_call 16; refine (lock_free muLib ⟨Z, 0, none⟩ _ c0 fz).mono ?_; rintro e w' ⟨rfl, rfl⟩)
  refine leaves_cons (f := 17) (args := #[.pointer (some ⟨Z, 0, none⟩)]) (by simp) (by simp [go_sem]) ?_
  refine (unlock_deferred muLib ⟨Z, 0, none⟩ .returning _ (zblk_cells HZ2.out).1 ((zblk_cells HZ2.out).2.2.2 0)).mono ?_
  rintro e u' w'' ⟨rfl, rfl, rfl⟩
  obtain ⟨h1, h2⟩ := sm_of HZ2.out HLK.out.pk HLK.out.kt
  exact ⟨_, results_tmp rfl _ _ _, rfl, h1, h2⟩
set_option maxRecDepth 20000 in
set_option maxHeartbeats 1600000 in
theorem smcloseC_any (w : World) (O : Nat → Prop) (Z V L : Nat) (t : List UInt8) (lv : Nat) (hs : List UInt8) (h : Sm w O Z V L t lv hs true) :
    Calls Tryz.prog 12 #[.pointer (some ⟨Z, 0, none⟩)] w fun e w' => e = .returned (.int .i64 10) ∧ Sm w' O Z V L t lv hs true ∧ To O O w w' := by
  obtain ⟨B, Op, rfl, hz, hp⟩ := h.st
  obtain ⟨c0, -, -, f0⟩ := zblk_cells hz
  have hlk := lkd_of hz hp
  obtain ⟨k0, k2, k3, kf⟩ := zblk_cells hlk.blk
  have HLK := hid hlk
  have HZ2 := hid hlk.blk
  have fz := f0 0
  clear h hz hp hlk f0 kf k0 k2
  go_enter_defers Tryz.func12, Tryz.ntmps12
  go_wp2_with (go_at_call 16; refine (lock_free muLib ⟨Z, 0, none⟩ _ c0 fz).mono ?_; rintro e w' ⟨rfl, rfl⟩)
  refine leaves_cons (f := 17) (args := #[.pointer (some ⟨Z, 0, none⟩)]) (by simp) (by simp [go_sem]) ?_
  refine (unlock_deferred muLib ⟨Z, 0, none⟩ .returning _ (zblk_cells HZ2.out).1 ((zblk_cells HZ2.out).2.2.2 0)).mono ?_
  rintro e u' w'' ⟨rfl, rfl, rfl⟩
  obtain ⟨h1, h2⟩ := sm_of HZ2.out HLK.out.pk HLK.out.kt
  exact ⟨_, results_tmp rfl _ _ _, rfl, h1, h2⟩
set_option maxRecDepth 20000 in
set_option maxHeartbeats 1600000 in
theorem smnew_any (w : World) (lv : Nat) (h9 : lv ≤ 9) (hg : Glf w) :
    Calls Tryz.prog 6 #[.int .i64 lv] w fun e w' => ∃ Z O, e = .returned (.tuple #[.pointer (some ⟨Z, 0, none⟩), .int .i64 0]) ∧ Sm w' O Z 0 0 [] lv [] false ∧ Below w.heap.size w w' ∧ ∀ k, O k → w.heap.size ≤ k := by
  have HNW := hid (pnew_any w lv h9 hg)
  have d0 : decide ((0 : Int) ≤ (lv : Int)) = true := by simp
  have d9 : decide ((lv : Int) ≤ 9) = true := by simp; omega
  have HIL : Hid (∀ u : World, Calls Tryz.prog 14 #[.int .i64 lv] u fun e w' => e = .returned (.bool true) ∧ u = w') := fun u => (isLevel_any u lv).mono fun e w' ⟨h1, h2⟩ => ⟨by rw [h1, d0, d9]; rfl, h2⟩
  clear hg
  go_enter Tryz.func6, Tryz.ntmps6
  go_wp2_with (first
    | (go_at_call 15; refine HNW.out.mono ?_; rintro e w1 ⟨B, O1, rfl, hp1, hb1, hB1, ho1⟩; have HP1 := hid hp1; have HB1 := hid hb1; have HO1 := hid ho1; clear hp1 hb1 ho1)
    | (go_at_call 14; refine (HIL.out _).mono ?_; rintro e w' ⟨rfl, rfl⟩))
  go_ret2
  have hba := (Below.refl w1.heap.size w1).alloc (Nat.le_refl _) (.cells #[.int .i32 0, .int .u32 0, .pointer (some ⟨B, 0, none⟩), .bool false] 51)
  refine ⟨w1.heap.size, SmO w1.heap.size O1, rfl, ⟨B, O1, rfl, heap_alloc_new w1 _, HP1.out.below hba⟩, HB1.out.trans (hba.mono HB1.out.size), fun k hk => ?_⟩
  have := HB1.out.size
  rcases hk with e | e
  · omega
  · exact HO1.out k e
end Go.Proofs.YthdmjmnkhlpnnabGreatDoor

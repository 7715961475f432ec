/-
  balelaw's begun, Book.looks of an empty book, plays and Streams.
-/
import Derived.Test.YthdmjmnkhlpnnaaGreatDoorStsC
namespace Go.Proofs.YthdmjmnkhlpnnaaGreatDoor
open Go.RowKit Go.Maps

theorem Wmm.init {w : World} {Op : Nat → Prop} {X Z lv : Nat} (hx : w.heap[X]? = some (.cells (wcells Z .empty .empty false true false 0 0 0 false 0) 109 (0, 0))) (h : Sm w Op Z 0 0 [] lv [] false) : Wmm w (SmO X Op) X 0 0 :=
  ⟨Z, .empty, .empty, false, true, false, 0, 0, false, 0, 0, 0, [], lv, [], Op, rfl, hx, h, ⟨fun _ => ⟨[], 0, 0, 0, Gs.init, rfl, by simp, fun _ => ⟨rfl, rfl⟩, nofun, nofun⟩, nofun⟩, rfl⟩
set_option maxHeartbeats 800000 in
theorem begun_any (w : World) (lv : Nat) (h9 : lv ≤ 9) (hg : Gl2 w) :
    Calls Tryz.prog 40 #[.int .i64 lv] w fun e w' => ∃ X O, e = .returned (.tuple #[.pointer (some ⟨X, 0, none⟩), .bool true]) ∧ Wmm w' O X 0 0 ∧ Below w.heap.size w w' ∧ ∀ k, O k → w.heap.size ≤ k := by
  have HN := hid (smnew_any w lv h9 hg.eff)
  have d0 : decide ((lv : Int) < 0) = false := decide_eq_false (by omega)
  have d9 : decide (9 < (lv : Int)) = false := decide_eq_false (by omega)
  clear hg
  go_enter Tryz.func40, Tryz.ntmps40
  go_wp2_with (go_at_call 66; refine HN.out.mono ?_; rintro e w1 ⟨Z, O, rfl, hs1, hb1, ho1⟩; have HS1 := hid hs1; have HB1 := hid hb1; have HO1 := hid ho1; clear hs1 hb1 ho1)
  go_ret2
  have hba := (Below.refl w1.heap.size w1).alloc (Nat.le_refl _) (.cells (wcells Z .empty .empty false true false 0 0 0 false 0) 109)
  refine ⟨w1.heap.size, SmO w1.heap.size O, rfl, Wmm.init (heap_alloc_new w1 _) (HS1.out.below hba), HB1.out.trans (hba.mono HB1.out.size), fun k hk => ?_⟩
  have := HB1.out.size
  rcases hk with e | e
  · omega
  · exact HO1.out k e
set_option maxHeartbeats 800000 in
theorem new_bad (w : World) (lev : Int) (h : lev < 0 ∨ 9 < lev) :
    Calls Tryz.prog 66 #[.int .i64 lev] w fun e w' => e = .returned (.tuple #[.pointer none, .int .i64 9]) ∧ w = w' := by
  have HIL : Hid (∀ u : World, Calls Tryz.prog 19 #[.int .i64 lev] u fun e w' => e = .returned (.bool false) ∧ u = w') := fun u => (isLevel_any u lev).mono fun e w' ⟨h1, h2⟩ => ⟨by rw [h1]; congr 2; rcases h with h | h <;> simp <;> omega, h2⟩
  go_enter Tryz.func66, Tryz.ntmps66
  go_wp2_with (go_at_call 19; refine (HIL.out _).mono ?_; rintro e w' ⟨rfl, rfl⟩)
  go_ret2
  exact ⟨rfl, rfl⟩
set_option maxHeartbeats 800000 in
theorem begun_bad (w : World) (lev : Int) (h : lev < 0 ∨ 9 < lev) :
    Calls Tryz.prog 40 #[.int .i64 lev] w fun e w' => e = .returned (.tuple #[.pointer none, .bool true]) ∧ w = w' := by
  have HN := hid (new_bad w lev h)
  rcases h with h | h
  all_goals
    go_enter Tryz.func40, Tryz.ntmps40
    go_wp2_with (first | (go_at_call 66; refine HN.out.mono ?_; rintro e w1 ⟨rfl, rfl⟩) | (go_at_call 11; refine (num_any _ _).mono ?_; rintro e' w2 ⟨rfl, rfl⟩))
    go_ret2
    exact ⟨rfl, rfl⟩
def bkcells : Array Value := #[.slice none 0 0, .slice none 0 0, .int .i64 0, .slice none 0 0]
set_option maxHeartbeats 800000 in
theorem looks_any (w : World) (B : Nat) (h : w.heap[B]? = some (.cells bkcells 73 (0, 0))) :
    Calls Tryz.prog 46 #[.pointer (some ⟨B, 0, none⟩)] w fun e w' => e = .returned (.bool true) ∧ w = w' := by
  have c0 : w.cell? ⟨B, 0, none⟩ = some (.slice none 0 0) := by rw [cell_of_row w B 0 _ _ (0, 0) h]; rfl
  go_enter Tryz.func46, Tryz.ntmps46
  go_wp2
  go_loopw [3] (fun v wr => v = .int .i64 0 ∧ w = wr) (fun _ _ => 0)
  case atStart => exact ⟨rfl, rfl⟩
  case round =>
    obtain ⟨rfl, rfl⟩ := hrel
    go_wp2
    go_ret
    exact ⟨rfl, rfl⟩
structure Opd where
  k : Int
  n : Int
  s : ByteArray
  a : Option Addr
  l : Nat
  c : Nat
def Ops (w : World) (ao : Option Addr) (os : List Opd) : Prop := ∀ j o, os[j]? = some o → ∃ b off, ao = some ⟨b, off, none⟩ ∧ b < w.heap.size ∧ w.cell? ⟨b, off + j * 4, none⟩ = some (.int .i64 o.k) ∧ w.cell? ⟨b, off + j * 4 + 1, none⟩ = some (.int .i64 o.n) ∧ w.cell? ⟨b, off + j * 4 + 2, none⟩ = some (.string o.s) ∧ w.cell? ⟨b, off + j * 4 + 3, none⟩ = some (.slice o.a o.l o.c)
def opL : List Opd → Nat
  | [] => 0
  | x :: r => x.s.size + opL r
theorem opL_drop (os : List Opd) (k : Nat) (o : Opd) (h : os[k]? = some o) : opL (os.drop k) = o.s.size + opL (os.drop (k + 1)) := by
  obtain ⟨hk, ho⟩ := List.getElem?_eq_some_iff.1 h
  rw [List.drop_eq_getElem_cons hk, opL, ho]
structure Two (w0 w : World) (BB X Y n m f g : Nat) : Prop where
  st : ∃ O P : Nat → Prop, Wmm w O X n f ∧ Wmm w P Y m g ∧ (∀ k, O k → ¬ P k) ∧ (∀ k, O k → w0.heap.size ≤ k) ∧ (∀ k, P k → w0.heap.size ≤ k) ∧ Gk w O ∧ Gk w P ∧ ¬ O BB ∧ ¬ P BB ∧ w.heap[BB]? = some (.cells bkcells 73 (0, 0)) ∧ w0.heap.size ≤ BB ∧ Below w0.heap.size w0 w
theorem Two.swap {w0 w : World} {BB X Y n m f g : Nat} (h : Two w0 w BB X Y n m f g) : Two w0 w BB Y X m n g f := by
  obtain ⟨O, P, h1, h2, h3, h4, h5, h6, h7, h8, h9, h10⟩ := h.st
  exact ⟨P, O, h2, h1, fun k a b => h3 k b a, h5, h4, h7, h6, h9, h8, h10⟩
theorem Two.below {w0 w w' : World} {BB X Y n m f g : Nat} (h : Two w0 w BB X Y n m f g) (hb : Below w.heap.size w w') : Two w0 w' BB X Y n m f g := by
  obtain ⟨O, P, h1, h2, h3, h4, h5, h6, h7, h8, h9, h10, h11, h12⟩ := h.st
  exact ⟨O, P, h1.below hb, h2.below hb, h3, h4, h5, h6.to (To.ofBelow hb), h7.to (To.ofBelow hb), h8, h9, (hb.block BB (Array.getElem?_eq_some_iff.1 h10).1).trans h10, h11, h12.trans (hb.mono h12.size)⟩
theorem Two.book {w0 w : World} {BB X Y n m f g : Nat} (h : Two w0 w BB X Y n m f g) : w.heap[BB]? = some (.cells bkcells 73 (0, 0)) := by
  obtain ⟨O, P, h1, h2, h3, h4, h5, h6, h7, h8, h9, h10, h11, h12⟩ := h.st
  exact h10
theorem Two.low {w0 w : World} {BB X Y n m f g : Nat} (h : Two w0 w BB X Y n m f g) : Below w0.heap.size w0 w := by
  obtain ⟨O, P, h1, h2, h3, h4, h5, h6, h7, h8, h9, h10, h11, h12⟩ := h.st
  exact h12
theorem Two.moved {w0 w w' : World} {BB X Y m g n' f' : Nat} {O P O' : Nat → Prop} (h2 : Wmm w P Y m g) (h3 : ∀ k, O k → ¬ P k) (h4 : ∀ k, O k → w0.heap.size ≤ k) (h5 : ∀ k, P k → w0.heap.size ≤ k) (h6 : Gk w O) (h7 : Gk w P) (h8 : ¬ O BB) (h9 : ¬ P BB) (h10 : w.heap[BB]? = some (.cells bkcells 73 (0, 0))) (h11 : w0.heap.size ≤ BB) (h12 : Below w0.heap.size w0 w) (hm : Wmm w' O' X n' f') (hk : To O O' w w') : Two w0 w' BB X Y n' m f' g := by
  have hbb := (Array.getElem?_eq_some_iff.1 h10).1
  have hz := h12.size
  refine ⟨O', P, hm, h2.other hk (fun k a b => h3 k b a), fun k a b => h2.apart hk (fun k a b => h3 k b a) k b a, fun k a => ?_, h5, h6.to hk, ⟨(h6.to hk).glo, h7.out⟩, fun a => ?_, h9, (hk.fr.blk BB hbb h8).trans h10, h11, ?_⟩
  · rcases hk.new k a with e | e
    · exact h4 k e
    · omega
  · rcases hk.new _ a with e | e
    · exact h8 e
    · omega
  · exact h12.trans ⟨hk.fr.env.os, hk.fr.env.tape, hk.fr.env.output, hk.fr.env.size, fun k hk' => hk.fr.blk k (by omega) (fun e => by have := h4 k e; omega)⟩
theorem Two.step {w0 w : World} {BB X Y n m f g : Nat} (h : Two w0 w BB X Y n m f g) (k N : Int) (S : ByteArray) (Lv : Value) (hS : n + S.size ≤ 1048576) (hf : f ≤ 300000) :
    Calls Tryz.prog 45 #[.pointer (some ⟨X, 0, none⟩), .agg #[.int .i64 k, .int .i64 N, .string S, Lv]] w fun e w' => e = .returned (.bool true) ∧ ∃ n' f', Two w0 w' BB X Y n' m f' g ∧ n' ≤ n + S.size ∧ f' ≤ f + 1 := by
  obtain ⟨O, P, h1, h2, h3, h4, h5, h6, h7, h8, h9, h10, h11, h12⟩ := h.st
  refine (wstep_any w O X n f h1 k N S Lv hS hf h6).mono ?_
  rintro e w' ⟨rfl, O', n', f', hm, hn, hf', hk⟩
  exact ⟨rfl, n', f', Two.moved h2 h3 h4 h5 h6 h7 h8 h9 h10 h11 h12 hm hk, hn, hf'⟩
theorem Two.take {w0 w : World} {BB X Y n m f g : Nat} (h : Two w0 w BB X Y n m f g) (hn : n ≤ 1048576) (hf : f ≤ 300000) :
    Calls Tryz.prog 47 #[.pointer (some ⟨X, 0, none⟩)] w fun e w' => e = .returned (.bool true) ∧ Two w0 w' BB X Y n m f g := by
  obtain ⟨O, P, h1, h2, h3, h4, h5, h6, h7, h8, h9, h10, h11, h12⟩ := h.st
  refine (wtake_any w O X n f h1 hn hf).mono ?_
  rintro e w' ⟨rfl, O', hm, hk⟩
  exact ⟨rfl, Two.moved h2 h3 h4 h5 h6 h7 h8 h9 h10 h11 h12 hm hk⟩
theorem Two.init {w w1 w2 : World} {X Y : Nat} {O P : Nat → Prop} (hg : Gl2 w) (a : Wmm w1 O X 0 0 ∧ Below w.heap.size w w1 ∧ ∀ k, O k → w.heap.size ≤ k) (b : Wmm w2 P Y 0 0 ∧ Below w1.heap.size w1 w2 ∧ ∀ k, P k → w1.heap.size ≤ k) : Two w (w2.alloc (.cells bkcells 73)) w2.heap.size X Y 0 0 0 0 := by
  obtain ⟨a1, a2, a3⟩ := a
  obtain ⟨b1, b2, b3⟩ := b
  have hba := (Below.refl w2.heap.size w2).alloc (Nat.le_refl _) (.cells bkcells 73)
  have hb3 := a2.trans ((b2.mono a2.size).trans (hba.mono (by have := a2.size; have := b2.size; omega)))
  have z1 := a2.size
  have z2 := b2.size
  have hor := cell_in (hg.ord 0 (by omega))
  refine ⟨O, P, (a1.below b2).below hba, b1.below hba, fun k p q => ?_, a3, fun k p => ?_, ⟨(hg.below hb3).ord, fun p => ?_⟩, ⟨(hg.below hb3).ord, fun p => ?_⟩, fun p => ?_, fun p => ?_, heap_alloc_new w2 _, by omega, hb3⟩
  · have := a1.olt p
    have := b3 k q
    omega
  · have := b3 k p
    omega
  · have := a3 _ p
    omega
  · have := b3 _ p
    omega
  · have := a1.olt p
    omega
  · have := b1.olt p
    omega
set_option maxRecDepth 20000 in
set_option maxHeartbeats 1600000 in
theorem plays_walk (w : World) (lv : Nat) (h9 : lv ≤ 9) (ao : Option Addr) (ca : Nat) (os : List Opd) (ho : Ops w ao os) (hn : os.length ≤ 300000) (hb : opL os ≤ 1048576) (hg : Gl2 w) :
    Calls Tryz.prog 18 #[.int .i64 lv, .slice ao os.length ca, .int .i64 5] w fun e w' => e = .returned (.bool true) ∧ Below w.heap.size w w' := by
  have HN := hid (begun_any w lv h9 hg)
  have HG := hid hg
  have HO := hid ho
  have HB := hid hb
  clear ho hb hg
  obtain ⟨u9, hu9⟩ : ∃ u : Nat, u = 9 - lv := ⟨_, rfl⟩
  have hi9 : (9 : Int) - (lv : Int) = (u9 : Int) := by omega
  have hu : u9 ≤ 9 := by omega
  have HN2 : Hid (∀ w1, Gl2 w1 → Calls Tryz.prog 40 #[.int .i64 u9] w1 fun e w' => ∃ X O, e = .returned (.tuple #[.pointer (some ⟨X, 0, none⟩), .bool true]) ∧ Wmm w' O X 0 0 ∧ Below w1.heap.size w1 w' ∧ ∀ k, O k → w1.heap.size ≤ k) := fun w1 h1 => begun_any w1 u9 hu h1
  clear hu9
  go_enter Tryz.func18, Tryz.ntmps18
  go_wp2_with (first
    | (go_at_call 40; refine (HN2.out w1 (HG.out.below HR1.out.2.1)).mono ?_; rintro e w2 ⟨Y, P, rfl, hm2, hb2, hp2⟩; have HR2 := hid (And.intro hm2 (And.intro hb2 hp2)); clear hm2 hb2 hp2)
    | (go_at_call 40; refine HN.out.mono ?_; rintro e w1 ⟨X, O, rfl, hm1, hb1, ho1⟩; have HR1 := hid (And.intro hm1 (And.intro hb1 ho1)); clear hm1 hb1 ho1))
  have HTW : Hid (Two w (w2.alloc (.cells #[.slice none 0 0, .slice none 0 0, .int .i64 0, .slice none 0 0] 73)) w2.heap.size X Y 0 0 0 0) := Two.init HG.out HR1.out HR2.out
  generalize w2.alloc (.cells #[.slice none 0 0, .slice none 0 0, .int .i64 0, .slice none 0 0] 73) = w3 at HTW ⊢
  generalize w2.heap.size = BB at HTW ⊢
  go_loopw [7, 8, 9, 11] (fun v7 v8 v9 v11 wr => ∃ (k X Y n m f g : Nat), k ≤ os.length ∧ v11 = .int .i64 k ∧ v8 = .bool true ∧ v7 = .pointer (some ⟨X, 0, none⟩) ∧ v9 = .pointer (some ⟨Y, 0, none⟩) ∧ n + m + opL (os.drop k) ≤ 1048576 ∧ f + g ≤ k ∧ Hid (Two w wr BB X Y n m f g)) (fun _ _ _ v11 _ => os.length - (intOf v11).toNat)
  case atStart => exact ⟨0, X, Y, 0, 0, 0, 0, by omega, rfl, rfl, rfl, rfl, by have := HB.out; simpa using this, by omega, HTW⟩
  case round =>
    clear HTW HN HN2 HR1 HR2 HG HB hi9 hu
    obtain ⟨k, X, Y, n, m, f, g, hk, rfl, rfl, rfl, rfl, hnm, hfg, hT⟩ := hrel
    by_cases hlt : k < os.length
    · obtain ⟨o, hok⟩ : ∃ o, os[k]? = some o := ⟨_, List.getElem?_eq_getElem hlt⟩
      obtain ⟨b, off, rfl, hbl, c0, c1, c2, c3⟩ := HO.out k o hok
      have hL := opL_drop os k o hok
      obtain ⟨kk, N, S, la, ll, lc⟩ := o
      simp only at c0 c1 c2 c3 hL
      have q0 : wr.cell? ⟨b, off + k * 4, none⟩ = some (.int .i64 kk) := (hT.out.low.cell (p := ⟨b, off + k * 4, none⟩) hbl).trans c0
      have q1 : wr.cell? ⟨b, off + k * 4 + 1, none⟩ = some (.int .i64 N) := (hT.out.low.cell (p := ⟨b, off + k * 4 + 1, none⟩) hbl).trans c1
      have q2 : wr.cell? ⟨b, off + k * 4 + 2, none⟩ = some (.string S) := (hT.out.low.cell (p := ⟨b, off + k * 4 + 2, none⟩) hbl).trans c2
      have q3 : wr.cell? ⟨b, off + k * 4 + 3, none⟩ = some (.slice la ll lc) := (hT.out.low.cell (p := ⟨b, off + k * 4 + 3, none⟩) hbl).trans c3
      have HB3 := hid (hT.out.below ((Below.refl wr.heap.size wr).alloc (Nat.le_refl _) (.cells #[.int .i64 kk, .int .i64 N, .string S, .slice la ll lc] 75)))
      have HL := hid hL
      clear c0 c1 c2 c3 hL hok
      by_cases hk5 : kk = 5
      · subst hk5
        go_wp2_with (go_at_call 46; refine (looks_any _ BB HB3.out.book).mono ?_; rintro e0 w0 ⟨rfl, rfl⟩)
        exact ⟨⟨k + 1, Y, X, m, n, g, f, by omega, rfl, rfl, rfl, rfl, by have := HL.out; omega, by omega, HB3.out.swap⟩, by simp [intOf]; omega⟩
      · by_cases hk6 : 5 < kk
        · have d5 : (kk == 5) = false := beq_eq_false_iff_ne.2 hk5
          have d6 : decide (5 < kk) = true := decide_eq_true hk6
          clear hk5 hk6
          go_wp2_with (go_at_call 46; refine (looks_any _ BB HB3.out.book).mono ?_; rintro e0 w0 ⟨rfl, rfl⟩)
          exact ⟨⟨k + 1, X, Y, n, m, f, g, by omega, rfl, rfl, rfl, rfl, by have := HL.out; omega, by omega, HB3⟩, by simp [intOf]; omega⟩
        · have d5 : (kk == 5) = false := beq_eq_false_iff_ne.2 hk5
          have d6 : decide (5 < kk) = false := decide_eq_false hk6
          have d7 : (kk == 6) = false := beq_eq_false_iff_ne.2 (by omega)
          have d8 : (kk == 7) = false := beq_eq_false_iff_ne.2 (by omega)
          have HST := hid (HB3.out.step kk N S (.slice la ll lc) (by have := HL.out; omega) (by omega))
          clear hk5 hk6
          go_wp2_with (first | (go_at_call 46; refine (looks_any _ BB HT4.out.book).mono ?_; rintro e0 w0 ⟨rfl, rfl⟩) | (go_at_call 45; refine HST.out.mono ?_; rintro e0 w4 ⟨rfl, n', f', ht4, hn4, hf4⟩; have HT4 := hid ht4; clear ht4))
          exact ⟨⟨k + 1, X, Y, n', m, f', g, by omega, rfl, rfl, rfl, rfl, by have := HL.out; omega, by omega, HT4⟩, by simp [intOf]; omega⟩
    · have HT1 := hid (hT.out.take (by omega) (by omega))
      go_wp2_with (first | (go_at_call 47; refine (HT5.out.swap.take (by omega) (by omega)).mono ?_; rintro e0 w6 ⟨rfl, ht6⟩; have HT6 := hid ht6; clear ht6) | (go_at_call 47; refine HT1.out.mono ?_; rintro e0 w5 ⟨rfl, ht5⟩; have HT5 := hid ht5; clear ht5))
      go_ret
      exact ⟨rfl, HT6.out.low⟩
set_option maxHeartbeats 800000 in
theorem plays_bad (w : World) (lev : Int) (h : lev < 0 ∨ 9 < lev) (v : Value) :
    Calls Tryz.prog 18 #[.int .i64 lev, v, .int .i64 5] w fun e w' => e = .returned (.bool true) ∧ w = w' := by
  have HN := hid (begun_bad w lev h)
  clear h
  go_enter Tryz.func18, Tryz.ntmps18
  go_wp2_with (go_at_call 40; refine HN.out.mono ?_; rintro e w1 ⟨rfl, rfl⟩)
  go_ret
  exact ⟨rfl, rfl⟩
set_option maxHeartbeats 800000 in
theorem streams_walk (w : World) (lev : Int) (ao : Option Addr) (ca : Nat) (os : List Opd) (ho : Ops w ao os) (hn : os.length ≤ 300000) (hb : opL os ≤ 1048576) (hg : Gl2 w) :
    Calls Tryz.prog 8 #[.int .i64 lev, .slice ao os.length ca] w fun e w' => e = .returned (.bool true) ∧ Below w.heap.size w w' := by
  have HP : Hid (Calls Tryz.prog 18 #[.int .i64 lev, .slice ao os.length ca, .int .i64 5] w fun e w' => e = .returned (.bool true) ∧ Below w.heap.size w w') := by
    by_cases h0 : lev < 0 ∨ 9 < lev
    · exact (plays_bad w lev h0 _).mono fun e w' ⟨h1, h2⟩ => ⟨h1, h2 ▸ Below.refl _ _⟩
    · obtain ⟨lv, rfl⟩ : ∃ lv : Nat, lev = (lv : Int) := ⟨lev.toNat, by omega⟩
      exact plays_walk w lv (by omega) ao ca os ho hn hb hg
  clear ho hb hg hn
  go_enter Tryz.func8, Tryz.ntmps8
  go_wp2_with (go_at_call 18; refine HP.out.mono ?_; rintro e w1 ⟨rfl, hb1⟩; have HB1 := hid hb1; clear hb1)
  go_ret
  exact ⟨rfl, HB1.out⟩
end Go.Proofs.YthdmjmnkhlpnnaaGreatDoor

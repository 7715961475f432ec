/-
  A stream that is written to, flushed, taken from and closed: what its bytes tell.
-/
import Derived.Test.YthdmjmnkhlpnnabGreatDoorY01
import Derived.Test.YthdmjmnkhlpnnabGreatDoorZ16
namespace Go.Proofs.YthdmjmnkhlpnnabGreatDoor
open Go.RowKit Go.Maps

theorem Glo.lt {w : World} (h : Glo w) : 1 < w.heap.size := cell_in (h 0 (by omega))
/-- an open stream: what was written to it, what was handed out, how many Flushes there were, whether what came last was one, and a full one -/
structure Ps (w : World) (O : Nat → Prop) (Z lv : Nat) (W o : List UInt8) (f : Nat) (fl fr : Bool) : Prop where
  st : ∃ (V L : Nat) (t hs T : List UInt8) (m e Vt Lt : Nat), Sm w O Z V L t lv hs false ∧ Gs V L hs o T 0 0 m f e Vt Lt ∧ W = T ++ t ∧ t.length ≤ 65535 ∧ (fl = true → t = [] ∧ L % 8 = 0) ∧ (fr = true → hs = [])
/-- a closed one, and whether all was handed out -/
structure Pcl (w : World) (O : Nat → Prop) (Z : Nat) (W o : List UInt8) (f : Nat) (tk : Bool) : Prop where
  st : ∃ (V L m e Vt Lt : Nat), Sm w O Z V L [] 0 [] true ∧ Gc V L o W 0 0 m f e Vt Lt ∧ L % 8 = 0 ∧ (tk = true → L = 0)
theorem Ps.init {w : World} {O : Nat → Prop} {Z lv : Nat} (h : Sm w O Z 0 0 [] lv [] false) : Ps w O Z lv [] [] 0 true true :=
  ⟨0, 0, [], [], [], 0, 0, 0, 0, h, Gs.init, rfl, by simp, fun _ => ⟨rfl, rfl⟩, fun _ => rfl⟩
theorem Ps.len {w : World} {O : Nat → Prop} {Z lv : Nat} {W o : List UInt8} {f : Nat} {fl fr : Bool} (h : Ps w O Z lv W o f fl fr) : o.length ≤ W.length + 5 * (W.length / 65535) + 10 * f := by
  obtain ⟨V, L, t, hs, T, m, e, Vt, Lt, h1, h2, rfl, h4, h5, h6⟩ := h.st
  have := h2.len
  rw [List.length_append]
  omega
theorem Pcl.len {w : World} {O : Nat → Prop} {Z : Nat} {W o : List UInt8} {f : Nat} {tk : Bool} (h : Pcl w O Z W o f tk) : o.length ≤ W.length + 5 * (W.length / 65535) + 10 * f := by
  obtain ⟨V, L, m, e, Vt, Lt, h1, h2, h3, h4⟩ := h.st
  exact h2.len
theorem Gs.bnd {V L : Nat} {hs o T : List UInt8} {a b m f e Vt Lt : Nat} (h : Gs V L hs o T a b m f e Vt Lt) : L ≤ 8 * (2 * T.length + 10 * f) ∧ hs.length ≤ T.length := by
  have h2 := h.lt
  have h3 := h.ln
  have h4 := h.fm
  have h5 := h.sf.length_le
  rw [List.length_drop] at h5
  omega
theorem Ps.below {w w' : World} {O : Nat → Prop} {Z lv : Nat} {W o : List UInt8} {f : Nat} {fl fr : Bool} (h : Ps w O Z lv W o f fl fr) (hb : Below w.heap.size w w') : Ps w' O Z lv W o f fl fr := by
  obtain ⟨V, L, t, hs, T, m, e, Vt, Lt, h1, h2⟩ := h.st
  exact ⟨V, L, t, hs, T, m, e, Vt, Lt, h1.below hb, h2⟩
theorem Pcl.below {w w' : World} {O : Nat → Prop} {Z : Nat} {W o : List UInt8} {f : Nat} {tk : Bool} (h : Pcl w O Z W o f tk) (hb : Below w.heap.size w w') : Pcl w' O Z W o f tk := by
  obtain ⟨V, L, m, e, Vt, Lt, h1, h2⟩ := h.st
  exact ⟨V, L, m, e, Vt, Lt, h1.below hb, h2⟩
theorem pswrite_any (w : World) (O : Nat → Prop) (Z lv : Nat) (W o : List UInt8) (f : Nat) (fl fr : Bool) (S : ByteArray) (h : Ps w O Z lv W o f fl fr) (hS : S.size ≤ 16777216) (hW : W.length ≤ 16777216) (hf : f ≤ 3000000) (hg : Gk w O) :
    Calls Tryz.prog 8 #[.pointer (some ⟨Z, 0, none⟩), .string S] w fun e w' => e = .returned (.int .i64 0) ∧ ∃ O', Ps w' O' Z lv (W ++ S.data.toList) o f false false ∧ To O O' w w' := by
  obtain ⟨V, L, t, hs, T, m, e, Vt, Lt, h1, h2, rfl, h4, h5, h6⟩ := h.st
  have hb := h2.bnd
  rw [List.length_append] at hW
  refine (smwrite_any w O Z V L t lv hs S h1 h4 hS (by omega) (by omega) hg).mono ?_
  rintro e' w' ⟨rfl, V', L', t', hs', O', m', a1, a2, a3, a4, a5⟩
  obtain ⟨x, Vt', Lt', rfl, hg'⟩ := h2.wfl a2
  refine ⟨rfl, O', ⟨V', L', t', _, T ++ x, _, _, Vt', Lt', a1, hg', ?_, a4, nofun, nofun⟩, a5⟩
  rw [List.append_assoc, List.append_assoc] at a3
  rw [List.append_assoc, List.append_assoc, List.append_cancel_left a3]
theorem psflush_any (w : World) (O : Nat → Prop) (Z lv : Nat) (W o : List UInt8) (f : Nat) (fl fr full : Bool) (h : Ps w O Z lv W o f fl fr) (hW : W.length ≤ 16777216) (hf : f ≤ 3000000) (hg : Gk w O) :
    Calls Tryz.prog 9 #[.pointer (some ⟨Z, 0, none⟩), .bool full] w fun e w' => e = .returned (.int .i64 0) ∧ ∃ O', Ps w' O' Z lv W o (f + 1) true full ∧ To O O' w w' := by
  obtain ⟨V, L, t, hs, T, m, e, Vt, Lt, h1, h2, rfl, h4, h5, h6⟩ := h.st
  have hb := h2.bnd
  rw [List.length_append] at hW
  refine (smflush_any w O Z V L t lv hs full h1 h4 (by omega) (by omega) hg).mono ?_
  rintro e' w' ⟨rfl, V', L', O', a1, a2, a3⟩
  obtain ⟨Vt', Lt', g1, g2, g3⟩ := h2.fls a1
  refine ⟨rfl, O', ?_, a3⟩
  cases full with
  | true => exact ⟨V', L', [], [], T ++ t, _, _, Vt', Lt', by simpa using a2, g1.forget, (List.append_nil _).symm, by simp, fun _ => ⟨rfl, g2⟩, fun _ => rfl⟩
  | false => exact ⟨V', L', [], hs ++ t, T ++ t, _, _, Vt', Lt', by simpa using a2, g1, (List.append_nil _).symm, by simp, fun _ => ⟨rfl, g2⟩, nofun⟩
theorem pstake_any (w : World) (O : Nat → Prop) (Z lv : Nat) (W o : List UInt8) (f : Nat) (fl fr : Bool) (h : Ps w O Z lv W o f fl fr) :
    Calls Tryz.prog 10 #[.pointer (some ⟨Z, 0, none⟩)] w fun e w' => ∃ (x : List UInt8) (O' : Nat → Prop), e = .returned (.string ⟨x.toArray⟩) ∧ Ps w' O' Z lv W (o ++ x) f fl fr ∧ To O O' w w' ∧ (fl = true → (∀ M : Int, (W.length : Int) ≤ M → ou ⟨(o ++ x).toArray⟩ M = (⟨W.toArray⟩, 0, 1)) ∧ (fr = true → Ps w' O' Z lv [] [] 0 true true)) := by
  obtain ⟨V, L, t, hs, T, m, e, Vt, Lt, h1, h2, rfl, h4, h5, h6⟩ := h.st
  refine (smtake_any w O Z V L t lv hs false h1).mono ?_
  rintro e' w' ⟨x, g, k, rfl, k8, g2, hV, hL, O', a1, a2⟩
  have h3 := h2.take hV hL
  refine ⟨x, O', rfl, ⟨g, k, t, hs, T, m, 0, Vt, Lt, a1, h3, rfl, h4, fun q => ⟨(h5 q).1, by have := (h5 q).2; omega⟩, h6⟩, a2, fun q => ?_⟩
  obtain ⟨rfl, h7⟩ := h5 q
  obtain rfl : k = 0 := by omega
  obtain rfl : g = 0 := by have : (2 : Nat) ^ 0 = 1 := rfl; omega
  refine ⟨fun M hM => ?_, fun r => ?_⟩
  · obtain ⟨t', e1, e2, e3⟩ := h3.all M (by simpa using hM)
    rw [e1, e3 rfl, List.append_nil]
  · rw [h6 r] at a1
    exact Ps.init a1
theorem psclose_any (w : World) (O : Nat → Prop) (Z lv : Nat) (W o : List UInt8) (f : Nat) (fl fr : Bool) (h : Ps w O Z lv W o f fl fr) (hW : W.length ≤ 16777216) (hf : f ≤ 3000000) (hg : Gk w O) :
    Calls Tryz.prog 12 #[.pointer (some ⟨Z, 0, none⟩)] w fun e w' => e = .returned (.int .i64 0) ∧ ∃ O', Pcl w' O' Z W o (f + 1) false ∧ To O O' w w' := by
  obtain ⟨V, L, t, hs, T, m, e, Vt, Lt, h1, h2, rfl, h4, h5, h6⟩ := h.st
  have hb := h2.bnd
  rw [List.length_append] at hW
  refine (smclose_any w O Z V L t lv hs h1 h4 (by omega) (by omega) hg).mono ?_
  rintro e' w' ⟨rfl, ps, O', a1, a2, a3⟩
  exact ⟨rfl, O', ⟨_, _, _, _, _, _, a2, h2.close a1, by unfold lft; omega, nofun⟩, a3⟩
theorem pctake_any (w : World) (O : Nat → Prop) (Z : Nat) (W o : List UInt8) (f : Nat) (tk : Bool) (h : Pcl w O Z W o f tk) :
    Calls Tryz.prog 10 #[.pointer (some ⟨Z, 0, none⟩)] w fun e w' => ∃ (x : List UInt8) (O' : Nat → Prop), e = .returned (.string ⟨x.toArray⟩) ∧ Pcl w' O' Z W (o ++ x) f true ∧ To O O' w w' ∧ (tk = true → x = []) ∧ (∀ M : Int, (W.length : Int) ≤ M → ou ⟨(o ++ x).toArray⟩ M = (⟨W.toArray⟩, (o ++ x).length, 0)) := by
  obtain ⟨V, L, m, e, Vt, Lt, h1, h2, h3, h4⟩ := h.st
  refine (smtake_any w O Z V L [] 0 [] true h1).mono ?_
  rintro e' w' ⟨x, g, k, rfl, k8, g2, hV, hL, O', a1, a2⟩
  have h5 := h2.take hV hL
  obtain rfl : k = 0 := by omega
  obtain rfl : g = 0 := by have : (2 : Nat) ^ 0 = 1 := rfl; omega
  exact ⟨x, O', rfl, ⟨0, 0, m, 0, Vt, Lt, a1, h5, rfl, fun _ => rfl⟩, a2, fun q => List.eq_nil_of_length_eq_zero (by have := h4 q; omega), fun M hM => h5.all rfl rfl M hM⟩
theorem pcwrite_any (w : World) (O : Nat → Prop) (Z : Nat) (W o : List UInt8) (f : Nat) (tk : Bool) (S : ByteArray) (h : Pcl w O Z W o f tk) :
    Calls Tryz.prog 8 #[.pointer (some ⟨Z, 0, none⟩), .string S] w fun e w' => e = .returned (.int .i64 10) ∧ Pcl w' O Z W o f tk ∧ To O O w w' := by
  obtain ⟨V, L, m, e, Vt, Lt, h1, h2⟩ := h.st
  refine (smwriteC_any w O Z V L [] 0 [] S h1).mono ?_
  rintro e' w' ⟨rfl, a1, a2⟩
  exact ⟨rfl, ⟨V, L, m, e, Vt, Lt, a1, h2⟩, a2⟩
theorem pcflush_any (w : World) (O : Nat → Prop) (Z : Nat) (W o : List UInt8) (f : Nat) (tk full : Bool) (h : Pcl w O Z W o f tk) :
    Calls Tryz.prog 9 #[.pointer (some ⟨Z, 0, none⟩), .bool full] w fun e w' => e = .returned (.int .i64 10) ∧ Pcl w' O Z W o f tk ∧ To O O w w' := by
  obtain ⟨V, L, m, e, Vt, Lt, h1, h2⟩ := h.st
  refine (smflushC_any w O Z V L [] 0 [] full h1).mono ?_
  rintro e' w' ⟨rfl, a1, a2⟩
  exact ⟨rfl, ⟨V, L, m, e, Vt, Lt, a1, h2⟩, a2⟩
theorem pcclose_any (w : World) (O : Nat → Prop) (Z : Nat) (W o : List UInt8) (f : Nat) (tk : Bool) (h : Pcl w O Z W o f tk) :
    Calls Tryz.prog 12 #[.pointer (some ⟨Z, 0, none⟩)] w fun e w' => e = .returned (.int .i64 10) ∧ Pcl w' O Z W o f tk ∧ To O O w w' := by
  obtain ⟨V, L, m, e, Vt, Lt, h1, h2⟩ := h.st
  refine (smcloseC_any w O Z V L [] 0 [] h1).mono ?_
  rintro e' w' ⟨rfl, a1, a2⟩
  exact ⟨rfl, ⟨V, L, m, e, Vt, Lt, a1, h2⟩, a2⟩
/-- what Inflate says -/
theorem inf_ou (w : World) (D T : ByteArray) (m n e : Nat) (hou : ou D (m : Int) = (T, n, e)) (hs : D.size ≤ 16777216) (hg : Glo w) :
    Calls Tryz.prog 11 #[.string D, .int .i64 m] w fun r w' => r = .returned (.tuple #[.string T, .int .i64 n, .int .i64 e]) ∧ Below w.heap.size w w' := by
  refine (inflate_any w D m hs hg (cell_in (hg 0 (by omega)))).mono ?_
  rintro r w' ⟨rfl, h2⟩
  rw [show max (m : Int) 0 = m by omega, hou]
  exact ⟨rfl, h2⟩
/-- New, and what it gives -/
theorem psnew_any (w : World) (lv : Nat) (h9 : lv ≤ 9) (hg : Gl2 w) :
    Calls Tryz.prog 6 #[.int .i64 lv] w fun e w' => ∃ Z O, e = .returned (.tuple #[.pointer (some ⟨Z, 0, none⟩), .int .i64 0]) ∧ Ps w' O Z lv [] [] 0 true true ∧ Below w.heap.size w w' ∧ (∀ k, O k → w.heap.size ≤ k) ∧ Gk w' O := by
  refine (smnew_any w lv h9 hg.eff).mono ?_
  rintro e w' ⟨Z, O, rfl, h1, h2, h3⟩
  exact ⟨Z, O, rfl, Ps.init h1, h2, h3, (hg.below h2).ord, fun q => by have := h3 _ q; have := hg.ord.lt; omega⟩
/-- what lies below the stream's blocks stays -/
theorem To.under {O O' : Nat → Prop} {w w1 w2 : World} (hb : Below w.heap.size w w1) (ho : ∀ k, O k → w.heap.size ≤ k) (kt : To O O' w1 w2) : Below w.heap.size w w2 := by
  have hz := hb.size
  exact hb.trans ⟨kt.fr.env.os, kt.fr.env.tape, kt.fr.env.output, kt.fr.env.size, fun k hk => kt.fr.blk k (by omega) (fun e => by have := ho k e; omega)⟩
end Go.Proofs.YthdmjmnkhlpnnabGreatDoor

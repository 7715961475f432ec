/-
  What codes.pairUp does: it empties a heap, two by two.
-/
import Derived.Test.YthdmjmnkhlpnnaaRowh
import Derived.Deep.LoopGhost
namespace Go.Proofs.Ythdmjmnkhlpnnaa
open Go.RowKit
attribute [local go_sem ↓] Go.wp_at_zero Go.wp_at_succ

/-- what Take tells -/
def Took (ps ps' : List Pc) (p : Pc) (ok : Bool) : Prop := (ok = false ∧ ps = [] ∧ ps' = []) ∨ (ok = true ∧ (p :: ps').Perm ps ∧ (∀ q ∈ ps', p.wt ≤ q.wt) ∧ p = ps.getD 0 Pc.zero ∧ TakP ps ps')

/-- Take, in one -/
theorem take_any {w : World} {hb : Nat} {iv : Value} {ps : List Pc} (h : Heap w hb iv ps) (ho : HO ps) (hn : ps.length ≤ 1000000) :
    Calls Try.prog 43 #[.pointer (some ⟨hb, 0, none⟩)] w fun e w' => ∃ (p : Pc) (ok : Bool) (iv' : Value) (ps' : List Pc), e = .returned (.tuple #[.agg #[.int .i64 p.wt, .slice p.ao p.sy.length p.c], .bool ok]) ∧ Heap w' hb iv' ps' ∧ HO ps' ∧ Only hb iv w w' ∧ iv'.ownBlock = iv.ownBlock ∧
      Took ps ps' p ok := by
  have hmin : ∀ q ∈ ps, (ps.getD 0 Pc.zero).wt ≤ q.wt := fun q hq => by
    obtain ⟨k, hk, e⟩ := List.getElem_of_mem hq
    have := ho_min ho k hk
    unfold wtAt at this
    simpa [hk, e] using this
  cases hps : ps with
  | nil =>
    subst hps
    refine (take_none h).mono ?_
    rintro e w' ⟨rfl, h', hb'⟩
    exact ⟨Pc.zero, false, iv, [], rfl, h', fun k _ kl => by simp at kl, (Only.refl _ _ _).below hb', rfl, .inl ⟨rfl, rfl, rfl⟩⟩
  | cons p0 rest =>
    rw [← hps]
    by_cases h1 : ps.length = 1
    · refine (take_one h h1).mono ?_
      rintro e w' ⟨rfl, iv', ps', h', hp, ho', on, ow, tk⟩
      exact ⟨ps.getD 0 Pc.zero, true, iv', ps', rfl, h', ho', on, ow, .inr ⟨rfl, hp, fun q hq => hmin q (hp.subset (List.mem_cons_of_mem _ hq)), rfl, tk⟩⟩
    · have hl : ps.length = (ps.length - 1) + 1 := by rw [hps]; simp
      refine (take_many h ho hn (ps.length - 1) (by omega) hl).mono ?_
      rintro e w' ⟨rfl, iv', ps', h', hp, ho', on, ow, tk⟩
      exact ⟨ps.getD 0 Pc.zero, true, iv', ps', rfl, h', ho', on, ow, .inr ⟨rfl, hp, fun q hq => hmin q (hp.subset (List.mem_cons_of_mem _ hq)), rfl, tk⟩⟩

def pairsOf : List (Int × List Int) → List (Int × List Int)
  | a :: b :: r => (a.1 + b.1, a.2 ++ b.2) :: pairsOf r
  | _ => []
theorem pairsOf_snoc (l : List (Int × List Int)) (h : l.length % 2 = 0) (a b : Int × List Int) : pairsOf (l ++ [a, b]) = pairsOf l ++ [(a.1 + b.1, a.2 ++ b.2)] := by
  match l, h with
  | [], _ => rfl
  | [_], h => simp at h
  | x :: y :: r, h =>
    have ih := pairsOf_snoc r (by simp at h; omega) a b
    simp only [List.cons_append, pairsOf, ih]
theorem pairsOf_one (l : List (Int × List Int)) (h : l.length % 2 = 0) (a : Int × List Int) : pairsOf (l ++ [a]) = pairsOf l := by
  match l, h with
  | [], _ => rfl
  | [_], h => simp at h
  | x :: y :: r, h =>
    have ih := pairsOf_one r (by simp at h; omega) a
    simp only [List.cons_append, pairsOf, ih]

theorem pairsOf_le : ∀ l : List (Int × List Int), (pairsOf l).length ≤ l.length
  | [] => by simp [pairsOf]
  | [_] => by simp [pairsOf]
  | _ :: _ :: r => by have := pairsOf_le r; simp [pairsOf]; omega

def Srt (l : List Pc) : Prop := l.Pairwise fun a b => a.wt ≤ b.wt

/-- what holds at each round -/
structure PairInv (w wr : World) (hb : Nat) (iv iv' : Value) (ps rs L Q : List Pc) (v : Value) : Prop where
  heap : Heap wr hb iv' rs
  same : iv'.ownBlock = iv.ownBlock
  ho : HO rs
  perm : (L ++ rs).Perm ps
  srt : Srt L
  le : ∀ a ∈ L, ∀ b ∈ rs, a.wt ≤ b.wt
  dr : DrP ps L rs
  abs : Q.map pabs = pairsOf (L.map pabs)
  even : L.length % 2 = 0
  own : wr.ownsRow w.heap.size 58 2 v Q.length (flat Q)
  okr : ∀ p ∈ rs, PcOk wr p
  okq : ∀ p ∈ Q, PcOk wr p
  newq : ∀ p ∈ Q, ∀ a, p.ao = some a → w.heap.size ≤ a.block
  only : Only hb iv w wr

/-- what holds at the end -/
def PairOut (w w' : World) (hb : Nat) (iv : Value) (ps : List Pc) (v : Value) : Prop :=
  ∃ Q La, w'.ownsRow w.heap.size 58 2 v Q.length (flat Q) ∧ La.Perm ps ∧ (Srt La ∧ DrP ps La []) ∧ Q.map pabs = pairsOf (La.map pabs) ∧ (∀ p ∈ Q, PcOk w' p) ∧ (∀ p ∈ Q, ∀ a, p.ao = some a → w.heap.size ≤ a.block) ∧ Only hb iv w w'

section
variable {w wr w1 w2 : World} {hb : Nat} {iv iv' iv1 iv2 : Value} {ps rs rs1 rs2 L Q : List Pc} {v : Value} {p q : Pc} {ok1 ok2 : Bool} {A : Obj}

theorem only_owns {a b : World} {iv0 : Value} (h : Only hb iv0 a b) {B n : Nat} {xs : List Value} (hown : a.ownsRow B 58 2 v n xs) (hB : hb < B) (hi : ∀ k, iv0.ownBlock = some k → k < B) : b.ownsRow B 58 2 v n xs :=
  owns_kept hown fun k hk => h.block k (hown.lt k hk).2 (by have := (hown.lt k hk).1; omega) (fun e => by have := hi k e; have := (hown.lt k hk).1; omega)

theorem two_takes (HI : PairInv w wr hb iv iv' ps rs L Q v) (T1 : Heap w1 hb iv1 rs1 ∧ HO rs1 ∧ Only hb iv' wr w1 ∧ iv1.ownBlock = iv'.ownBlock ∧ Took rs rs1 p ok1)
    (T2 : Heap w2 hb iv2 rs2 ∧ HO rs2 ∧ Only hb iv1 (w1.alloc A) w2 ∧ iv2.ownBlock = iv1.ownBlock ∧ Took rs1 rs2 q ok2) (HIV : ∀ k, iv.ownBlock = some k → k < w.heap.size) (hlt : hb < w.heap.size) :
    iv2.ownBlock = iv.ownBlock ∧ Only hb iv w w2 ∧ w2.ownsRow w.heap.size 58 2 v Q.length (flat Q) ∧ (∀ x ∈ Q, PcOk w2 x) ∧ (∀ x ∈ rs, PcOk w2 x) ∧ (∀ o v, w1.heap.size < w2.heap.size ∧ ((w1.alloc A).cell? ⟨w1.heap.size, o, none⟩ = some v → w2.cell? ⟨w1.heap.size, o, none⟩ = some v)) := by
  obtain ⟨h1, o1, n1, s1, d1⟩ := T1
  obtain ⟨h2, o2, n2, s2, d2⟩ := T2
  have e1 : iv1.ownBlock = iv.ownBlock := s1.trans HI.same
  have n1' : Only hb iv wr w1 := only_own n1 HI.same
  have n2' : Only hb iv (w1.alloc A) w2 := only_own n2 e1
  have ba : Below w1.heap.size w1 (w1.alloc A) := (Below.refl _ _).alloc (Nat.le_refl _) A
  have on1 : Only hb iv w w1 := HI.only.trans n1'
  have ona : Only hb iv w (w1.alloc A) := on1.below ba
  have on2 : Only hb iv w w2 := ona.trans n2'
  have h1a : Heap (w1.alloc A) hb iv1 rs1 := h1.below ba
  have hown1 := only_owns n1' HI.own hlt HIV
  have hown2 := only_owns n2' (hown1.alloc A) hlt HIV
  have ok : ∀ x, PcOk wr x → PcOk w2 x := fun x hx => ((hx.only HI.heap n1).below ba).only h1a n2
  have z1 : w.heap.size ≤ w1.heap.size := on1.size
  have z2 : w1.heap.size < w2.heap.size := by have := n2.size; simp at this; omega
  refine ⟨s2.trans e1, on2, hown2, fun x hx => ok x (HI.okq x hx), fun x hx => ok x (HI.okr x hx), fun o v => ⟨z2, fun hv => ?_⟩⟩
  exact only_cell n2' (by omega) (fun e => by have := HIV _ e; omega) hv

theorem pair_end (HI : PairInv w wr hb iv iv' ps rs L Q v) (d1 : Took rs rs1 p ok1) (d2 : Took rs1 rs2 q false) : ∃ La, La.Perm ps ∧ (Srt La ∧ DrP ps La []) ∧ Q.map pabs = pairsOf (La.map pabs) := by
  have e1 : rs1 = [] := by
    rcases d2 with ⟨_, e, _⟩ | ⟨e, _⟩
    · exact e
    · cases e
  refine ⟨L ++ rs, HI.perm, ⟨?_, ?_⟩, ?_⟩
  · refine List.pairwise_append.2 ⟨HI.srt, ?_, HI.le⟩
    rcases d1 with ⟨_, e, _⟩ | ⟨_, e, _⟩
    · rw [e]; exact List.Pairwise.nil
    · rw [e1] at e
      have e3 : rs = [p] := (List.perm_singleton.1 e.symm)
      rw [e3]; exact List.pairwise_singleton _ _
  · rcases d1 with ⟨_, e, _⟩ | ⟨_, e, _, hp0, tk⟩
    · have h := HI.dr
      rw [e] at h
      rw [e, List.append_nil]
      exact h
    · rw [e1] at e tk
      have e3 : rs = [p] := (List.perm_singleton.1 e.symm)
      have h := HI.dr.snoc _ _ tk
      rw [← hp0] at h
      rw [e3]
      exact h
  · rcases d1 with ⟨_, e, _⟩ | ⟨_, e, _⟩
    · rw [e, List.append_nil]; exact HI.abs
    · rw [e1] at e
      have e3 : rs = [p] := (List.perm_singleton.1 e.symm)
      rw [e3, List.map_append, HI.abs]
      exact (pairsOf_one _ (by simpa using HI.even) _).symm

theorem pair_next (HI : PairInv w wr hb iv iv' ps rs L Q v) (d1 : Took rs rs1 p ok1) (d2 : Took rs1 rs2 q true) :
    (L ++ [p, q] ++ rs2).Perm ps ∧ Srt (L ++ [p, q]) ∧ ((∀ a ∈ L ++ [p, q], ∀ b ∈ rs2, a.wt ≤ b.wt) ∧ DrP ps (L ++ [p, q]) rs2) ∧ pairsOf ((L ++ [p, q]).map pabs) = pairsOf (L.map pabs) ++ [(p.wt + q.wt, p.sy ++ q.sy)] ∧ p ∈ rs ∧ q ∈ rs ∧ (∀ x ∈ rs2, x ∈ rs) ∧ rs2.length + 2 = rs.length ∧ p ∈ ps ∧ q ∈ ps := by
  obtain ⟨e2, m2, hq0, tk2⟩ : (q :: rs2).Perm rs1 ∧ (∀ x ∈ rs2, q.wt ≤ x.wt) ∧ q = rs1.getD 0 Pc.zero ∧ TakP rs1 rs2 := by
    rcases d2 with ⟨e, _⟩ | ⟨_, e, m⟩
    · cases e
    · exact ⟨e, m⟩
  obtain ⟨e1, m1, hp0, tk1⟩ : (p :: rs1).Perm rs ∧ (∀ x ∈ rs1, p.wt ≤ x.wt) ∧ p = rs.getD 0 Pc.zero ∧ TakP rs rs1 := by
    rcases d1 with ⟨_, _, e⟩ | ⟨_, e, m⟩
    · rw [e] at e2; have := e2.length_eq; simp at this
    · exact ⟨e, m⟩
  have hdr : DrP ps (L ++ [p, q]) rs2 := by
    have h := (HI.dr.snoc _ _ tk1).snoc _ _ tk2
    rw [← hp0, ← hq0, List.append_assoc] at h
    exact h
  have e3 : (p :: q :: rs2).Perm rs := (List.Perm.cons p e2).trans e1
  have hp : p ∈ rs := e3.subset (by simp)
  have hq : q ∈ rs := e3.subset (by simp)
  have hr : ∀ x ∈ rs2, x ∈ rs := fun x hx => e3.subset (by simp [hx])
  have hq1 : q ∈ rs1 := e2.subset (by simp)
  refine ⟨?_, ?_, ⟨?_, hdr⟩, ?_, hp, hq, hr, ?_, HI.perm.subset (by simp [hp]), HI.perm.subset (by simp [hq])⟩
  · rw [List.append_assoc]
    exact (List.Perm.append_left L (by simpa using e3)).trans HI.perm
  · refine List.pairwise_append.2 ⟨HI.srt, ?_, fun a ha b hb => HI.le a ha b (by simp at hb; rcases hb with rfl | rfl <;> assumption)⟩
    exact List.pairwise_pair.2 (m1 q hq1)
  · intro a ha b hb
    rcases List.mem_append.1 ha with ha | ha
    · exact HI.le a ha b (hr b hb)
    · simp at ha
      rcases ha with rfl | rfl
      · exact m1 b (e2.subset (by simp [hb]))
      · exact m2 b hb
  · rw [List.map_append]
    exact pairsOf_snoc _ (by simpa using HI.even) _ _
  · have := e3.length_eq; simpa using this

theorem grow_cell {w4 w5 : World} {B : Obj} {row : Option Nat} {a : Addr} {u : Value} (hg : (w4.alloc B).grownBy w5 row) (hv : w4.cell? a = some u) (hne : some a.block ≠ row) : w5.cell? a = some u :=
  hg.cell ((World.cell?_of_block (w := w4) (Below.heap_alloc w4 B a.block (World.block_lt_of_cell? w4 a hv))).trans hv) hne

theorem pair_mid {w4 : World} {a1 a2 : Option Addr} {n1 n2 c1 c2 : Nat} {x y : Int} {X : Obj} (x0 : w2.cell? ⟨w1.heap.size, 0, none⟩ = some (.int .i64 x)) (x1 : w2.cell? ⟨w1.heap.size, 1, none⟩ = some (.slice a1 n1 c1)) (ov : w2.ownsRow w.heap.size 58 2 v Q.length (flat Q))
    (hb4 : Below ((w2.alloc (.cells #[.int .i64 y, .slice a2 n2 c2] 58)).alloc X).drew.heap.size ((w2.alloc (.cells #[.int .i64 y, .slice a2 n2 c2] 58)).alloc X).drew w4) :
    w4.cell? ⟨w1.heap.size, 0, none⟩ = some (.int .i64 x) ∧ w4.cell? ⟨w1.heap.size, 1, none⟩ = some (.slice a1 n1 c1) ∧ w4.cell? ⟨w2.heap.size, 0, none⟩ = some (.int .i64 y) ∧ w4.cell? ⟨w2.heap.size, 1, none⟩ = some (.slice a2 n2 c2) ∧ w4.ownsRow w.heap.size 58 2 v Q.length (flat Q) ∧ w2.heap.size + 2 ≤ w4.heap.size := by
  have z : w2.heap.size + 2 ≤ w4.heap.size := by have := hb4.size; simp at this; omega
  have b1 : Below (w2.alloc (.cells #[.int .i64 y, .slice a2 n2 c2] 58)).heap.size (w2.alloc (.cells #[.int .i64 y, .slice a2 n2 c2] 58)) w4 := ((Below.refl _ _).alloc (Nat.le_refl _) X).drew.trans (hb4.mono (by simp))
  have b2 : Below w2.heap.size w2 w4 := ((Below.refl _ _).alloc (Nat.le_refl _) _).trans (b1.mono (by simp))
  have hl : w1.heap.size < w2.heap.size := World.block_lt_of_cell? w2 _ x0
  refine ⟨(b2.cell (p := ⟨w1.heap.size, 0, none⟩) hl).trans x0, (b2.cell (p := ⟨w1.heap.size, 1, none⟩) hl).trans x1, ?_, ?_, owns_kept ov fun k hk => b2.block k (ov.lt k hk).2, z⟩
  · rw [b1.cell (p := ⟨w2.heap.size, 0, none⟩) (by simp), cell_of_row _ _ 0 _ 58 (0, 0) (heap_alloc_new w2 _)]; rfl
  · rw [b1.cell (p := ⟨w2.heap.size, 1, none⟩) (by simp), cell_of_row _ _ 1 _ 58 (0, 0) (heap_alloc_new w2 _)]; rfl

theorem pair_step {w4 w5 : World} {X B A1 : Obj} {v' : Value} {g cap n : Nat} (HI : PairInv w wr hb iv iv' ps rs L Q v) (T2h : Heap w2 hb iv2 rs2) (T2o : HO rs2) (TT : iv2.ownBlock = iv.ownBlock ∧ Only hb iv w w2 ∧ w2.ownsRow w.heap.size 58 2 v Q.length (flat Q) ∧ (∀ x ∈ Q, PcOk w2 x) ∧ (∀ x ∈ rs, PcOk w2 x))
    (PN : (L ++ [p, q] ++ rs2).Perm ps ∧ Srt (L ++ [p, q]) ∧ ((∀ a ∈ L ++ [p, q], ∀ b ∈ rs2, a.wt ≤ b.wt) ∧ DrP ps (L ++ [p, q]) rs2) ∧ pairsOf ((L ++ [p, q]).map pabs) = pairsOf (L.map pabs) ++ [(p.wt + q.wt, p.sy ++ q.sy)] ∧ (∀ x ∈ rs2, x ∈ rs))
    (HIV : ∀ k, iv.ownBlock = some k → k < w.heap.size) (hlt : hb < w.heap.size) (hb4 : Below ((w2.alloc A1).alloc X).drew.heap.size ((w2.alloc A1).alloc X).drew w4) (hg0 : ((w2.alloc A1).alloc X).drew.heap.size ≤ g) (hn0 : 0 < (p.sy ++ q.sy).length)
    (hown4 : w4.ownsRow ((w2.alloc A1).alloc X).drew.heap.size 3 1 (.slice (some ⟨g, 0, none⟩) n cap) n ((p.sy ++ q.sy).map (Value.int .i64))) (hg5 : (w4.alloc B).grownBy w5 v.ownBlock)
    (hown5 : w5.ownsRow w.heap.size 58 2 v' (Q.length + 1) (flat Q ++ [.int .i64 (p.wt + q.wt), .slice (some ⟨g, 0, none⟩) (p.sy ++ q.sy).length cap])) :
    PairInv w w5 hb iv iv2 ps rs2 (L ++ [p, q]) (Q ++ [⟨some ⟨g, 0, none⟩, cap, p.wt + q.wt, p.sy ++ q.sy⟩]) v' := by
  obtain ⟨s2, on2, own2, okq2, okr2⟩ := TT
  have ba : Below w2.heap.size w2 ((w2.alloc A1).alloc X).drew := (((Below.refl _ _).alloc (Nat.le_refl _) A1).alloc (by simp) X).drew
  have b4 : Below w2.heap.size w2 w4 := ba.trans (hb4.mono ba.size)
  have b4a : Below w2.heap.size w2 (w4.alloc B) := b4.alloc b4.size B
  have own4 : (w4.alloc B).ownsRow w.heap.size 58 2 v Q.length (flat Q) := owns_kept own2 fun k hk => b4a.block k (own2.lt k hk).2
  have z2 : w.heap.size ≤ w2.heap.size := on2.size
  have vb : ∀ k, v.ownBlock = some k → w.heap.size ≤ k := fun k hk => (own2.lt k hk).1
  have h4 : Heap (w4.alloc B) hb iv2 rs2 := T2h.below b4a
  have z4 := b4a.size
  have h5 : Heap w5 hb iv2 rs2 := h4.kept (hg5.block hb (by omega) (fun e => by have := vb hb e.symm; omega)) fun k hk => hg5.block k (h4.own.lt k hk).2 (fun e => by have := vb k e.symm; rw [s2] at hk; have := HIV k hk; omega)
  have ok5 : ∀ x, PcOk w2 x → PcOk w5 x := fun x hx => (hx.below b4a).grown own4 hg5
  have okn : PcOk w5 ⟨some ⟨g, 0, none⟩, cap, p.wt + q.wt, p.sy ++ q.sy⟩ := ((PcOk.own hown4 hn0).below ((Below.refl _ _).alloc (Nat.le_refl _) B)).grown own4 hg5
  refine ⟨h5, s2, T2o, PN.1, PN.2.1, PN.2.2.1.1, PN.2.2.1.2, ?_, ?_, ?_, fun x hx => ok5 x (okr2 x (PN.2.2.2.2 x hx)), fun x hx => ?_, fun x hx a ha => ?_, ?_⟩
  · rw [List.map_append, HI.abs, PN.2.2.2.1]; rfl
  · have := HI.even; simp; omega
  · rw [List.length_append, flat_append]; exact hown5
  · rcases List.mem_append.1 hx with hx | hx
    · exact ok5 x (okq2 x hx)
    · simp at hx; subst hx; exact okn
  · rcases List.mem_append.1 hx with hx | hx
    · exact HI.newq x hx a ha
    · simp at hx; subst hx
      injection ha with ha
      subst ha
      have := ba.size
      show w.heap.size ≤ g
      omega
  · exact ⟨hg5.os.trans (b4a.os.trans on2.os), hg5.tape.trans (b4a.tape.trans on2.tape), hg5.output.trans (b4a.output.trans on2.output), by have := hg5.size; omega,
      fun k h1 h2 h3 => by rw [hg5.block k (by omega) (fun e => by have := vb k e.symm; omega), b4a.block k (by omega), on2.block k h1 h2 h3]⟩
end

set_option maxRecDepth 20000 in
set_option maxHeartbeats 4000000 in
theorem pairUp_any {w : World} {hb : Nat} {iv : Value} {ps : List Pc} (h : Heap w hb iv ps) (ho : HO ps) (hok : ∀ p ∈ ps, PcOk w p) (hn : ps.length ≤ 10000) (hw : ∀ p ∈ ps, 0 < p.wt ∧ p.wt ≤ 70368744177664) (hsy : ∀ p ∈ ps, p.sy.length ≤ 1000000) :
    Calls Try.prog 40 #[.pointer (some ⟨hb, 0, none⟩)] w fun e w' => ∃ v, e = .returned v ∧ PairOut w w' hb iv ps v := by
  obtain ⟨i0, hi0, hz0, hz1, hz2⟩ := info_parts info58
  have H0 : Hid (PairInv w w hb iv iv ps ps [] [] (.slice none 0 0)) := ⟨h, rfl, ho, List.Perm.refl _, List.Pairwise.nil, (fun a ha => by cases ha), rfl, rfl, rfl, World.ownsRow_nil _ _ _ _, hok, (fun p hp => by cases hp), (fun p hp => by cases hp), Only.refl _ _ _⟩
  have HW := hid hw
  have HSY := hid hsy
  have HIV : Hid (∀ k, iv.ownBlock = some k → k < w.heap.size) := fun k hk => (h.own.lt k hk).2
  have hlt0 := h.lt
  clear h ho hok hw hsy
  go_enter Try.func40, Try.ntmps40
  go_wp2
  go_loopg [3] (ps.length + 1) (fun gk v wr => ∃ (iv' : Value) (rs L Q : List Pc), rs.length < gk ∧ Q.length ≤ ps.length ∧ Hid (PairInv w wr hb iv iv' ps rs L Q v))
  case atStart => exact ⟨iv, ps, [], [], by omega, by simp, H0.out⟩
  case round =>
    clear H0
    obtain ⟨iv', rs, L, Q, hgk, hQl, HI⟩ := hrel
    have hrl : rs.length ≤ 10000 := by have := HI.out.perm.length_eq; simp at this; omega
    go_wp2_with fail
    refine (take_any HI.out.heap HI.out.ho (by omega)).mono ?_
    rintro e w1 ⟨p, ok1, iv1, rs1, rfl, th1, to1, tn1, ts1, td1⟩
    have T1 := hid (show _ ∧ _ ∧ _ ∧ _ ∧ _ from ⟨th1, to1, tn1, ts1, td1⟩)
    have hrl1 : rs1.length ≤ 10000 := by
      rcases td1 with ⟨_, _, e⟩ | ⟨_, e, _⟩
      · rw [e]; simp
      · have := e.length_eq; simp at this; omega
    clear th1 to1 tn1 ts1 td1
    go_wp2_with fail
    refine (take_any (T1.out.1.below ((Below.refl _ _).alloc (Nat.le_refl _) _)) T1.out.2.1 (by omega)).mono ?_
    rintro e w2 ⟨q, ok2, iv2, rs2, rfl, th2, to2, tn2, ts2, td2⟩
    have T2 := hid (show _ ∧ _ ∧ _ ∧ _ ∧ _ from ⟨th2, to2, tn2, ts2, td2⟩)
    have TT := hid (two_takes HI.out T1.out T2.out HIV.out hlt0)
    clear th2 to2 tn2 ts2 td2
    cases ok2 with
    | false =>
      go_wp2
      go_ret
      obtain ⟨La, l1, l2, l3⟩ := pair_end HI.out T1.out.2.2.2.2 T2.out.2.2.2.2
      have bb : ∀ B : Obj, Below w2.heap.size w2 (w2.alloc B) := fun B => (Below.refl _ _).alloc (Nat.le_refl _) B
      exact ⟨_, rfl, Q, La, TT.out.2.2.1.alloc _, l1, l2, l3, fun x hx => (TT.out.2.2.2.1 x hx).below (bb _), HI.out.newq, TT.out.2.1.below (bb _)⟩
    | true =>
      have PN := hid (pair_next HI.out T1.out.2.2.2.2 T2.out.2.2.2.2)
      go_wp2
      have okp := (TT.out.2.2.2.2.1 p PN.out.2.2.2.2.1).below ((Below.refl _ _).alloc (Nat.le_refl _) (.cells #[.int .i64 q.wt, .slice q.ao q.sy.length q.c] 58))
      have okq := (TT.out.2.2.2.2.1 q PN.out.2.2.2.2.2.1).below ((Below.refl _ _).alloc (Nat.le_refl _) (.cells #[.int .i64 q.wt, .slice q.ao q.sy.length q.c] 58))
      have wp := HW.out p PN.out.2.2.2.2.2.2.2.2.1
      have wq := HW.out q PN.out.2.2.2.2.2.2.2.2.2
      have sp := HSY.out p PN.out.2.2.2.2.2.2.2.2.1
      have sq := HSY.out q PN.out.2.2.2.2.2.2.2.2.2
      obtain ⟨pao, pc, pw, psy⟩ := p
      obtain ⟨qao, qc, qw, qsy⟩ := q
      obtain ⟨gp, e1, segp, lp⟩ := okp.seg
      obtain ⟨gq, e2, segq, lq⟩ := okq.seg
      dsimp only at e1 e2 segp segq lp lq wp wq sp sq ⊢
      subst e1 e2
      have x0 : w2.cell? ⟨w1.heap.size, 0, none⟩ = some (.int .i64 pw) := (TT.out.2.2.2.2.2 0 _).2 (by rw [cell_of_row _ _ 0 _ 58 (0, 0) (heap_alloc_new w1 _)]; rfl)
      have x1 : w2.cell? ⟨w1.heap.size, 1, none⟩ = some (.slice (some ⟨gp, 0, none⟩) psy.length pc) := (TT.out.2.2.2.2.2 1 _).2 (by rw [cell_of_row _ _ 1 _ 58 (0, 0) (heap_alloc_new w1 _)]; rfl)
      have z12 := (TT.out.2.2.2.2.2 0 (.int .i64 0)).1
      have zw := TT.out.2.1.size
      have zw1 : w.heap.size ≤ w1.heap.size := (HI.out.only.trans (only_own T1.out.2.2.1 HI.out.same)).size
      obtain ⟨va, vc, hv, _⟩ := owns_shape TT.out.2.2.1
      have ov := TT.out.2.2.1
      subst hv
      have vl : ∀ k, (Value.slice va Q.length vc).ownBlock = some k → k < w1.heap.size := fun k hk => by
        have h1 := (HI.out.own.lt k hk).2
        have := T1.out.2.2.1.size
        omega
      have HVL := hid vl
      have un1 : (Value.slice va Q.length vc).ownBlock ≠ some w1.heap.size := fun e => by have := vl _ e; omega
      have un2 : (Value.slice va Q.length vc).ownBlock ≠ some w2.heap.size := fun e => by have := vl _ e; omega
      have HOV := hid ov
      have HUN1 := hid un1
      have HUN2 := hid un2
      have Hsegp : Hid (∀ o : Obj, Seg ((w2.alloc (.cells #[.int .i64 qw, .slice (some ⟨gq, 0, none⟩) qsy.length qc] 58)).alloc o).drew (some ⟨gp, 0, none⟩) psy) := fun o => segp.below (((Below.refl _ _).alloc (Nat.le_refl _) o).drew)
      have Hsegq : Hid (∀ o : Obj, Seg ((w2.alloc (.cells #[.int .i64 qw, .slice (some ⟨gq, 0, none⟩) qsy.length qc] 58)).alloc o).drew (some ⟨gq, 0, none⟩) qsy) := fun o => segq.below (((Below.refl _ _).alloc (Nat.le_refl _) o).drew)
      have HX0 := hid x0
      have HX1 := hid x1
      have KN0 : Hid (∀ a b : Value, ((w2.alloc (.cells #[.int .i64 qw, .slice (some ⟨gq, 0, none⟩) qsy.length qc] 58)).alloc (.cells #[a, b] 27)).drew.cell? ⟨w2.heap.size + 1, 0, none⟩ = some a) := fun a b => by
        simp
      have KN1 : Hid (∀ a b : Value, ((w2.alloc (.cells #[.int .i64 qw, .slice (some ⟨gq, 0, none⟩) qsy.length qc] 58)).alloc (.cells #[a, b] 27)).drew.cell? ⟨w2.heap.size + 1, 1, none⟩ = some b) := fun a b => by
        simp
      have hwr : IntKind.i64.wrap (pw + qw) = pw + qw := by rw [IntKind.wrap_i64]; omega
      clear vl okp okq segp segq ov un1 un2
      go_region_held3 (fun w' => w'.cell? ⟨w1.heap.size, 0, none⟩ = some (.int .i64 pw) ∧ w'.cell? ⟨w1.heap.size, 1, none⟩ = some (.slice (some ⟨gp, 0, none⟩) psy.length pc) ∧ w'.cell? ⟨w2.heap.size, 0, none⟩ = some (.int .i64 qw) ∧ w'.cell? ⟨w2.heap.size, 1, none⟩ = some (.slice (some ⟨gq, 0, none⟩) qsy.length qc))
        (go_keep)
        (first
          | (go_at_call 44
             refine (concat_any (b := w2.heap.size + 1) ⟨gp, 0, none⟩ ⟨gq, 0, none⟩ pc qc psy qsy (Hsegp.out _) (Hsegq.out _) lp (by omega) (by omega) (KN0.out _ _) (KN1.out _ _)).mono ?_
             rintro e w4 ⟨g, cap, rfl, hg0, hown4, hb4⟩
             have MID := pair_mid (v := .slice va Q.length vc) (Q := Q) (w := w) HX0.out HX1.out HOV.out hb4
             obtain ⟨m0, m1, m2, m3, hov4, z4⟩ := MID
             have HOV4 := hid hov4
             have HOW4 := hid hown4
             have HB4 := hid hb4
             have HG0 := hid hg0
             clear hov4 hown4 hb4 hg0 x0 x1)
          | (refine step_append_lies _ (by rfl) _ _ _ (by rfl) w.heap.size 58 i0 _ 2 32 Try.underlying54 hi0 hz0 hz1 hz2 rfl (by omega) (.slice va Q.length vc) Q.length (flat Q) (by rfl) (HOV4.out.alloc _)
               ⟨w4.heap.size, 0, none⟩ 1 1 [.int .i64 (pw + qw), .slice (some ⟨g, 0, none⟩) (psy.length + qsy.length) cap] (by rfl) (by rfl) (cells_new w4 _ 58) (by simp [Value.oneCell'])
               (by omega) (by unfold maxLen; omega) (by omega) (by simp; omega) (w4.heap.size + 1) (by simp) ?_
             intro gg cap5 w5 hown5 hgrow5 hat5 hlt5
             have n0 : w5.cell? ⟨w1.heap.size, 0, none⟩ = some (.int .i64 pw) := grow_cell hgrow5 m0 (Ne.symm HUN1.out)
             have n1 : w5.cell? ⟨w1.heap.size, 1, none⟩ = some (.slice (some ⟨gp, 0, none⟩) psy.length pc) := grow_cell hgrow5 m1 (Ne.symm HUN1.out)
             have n2 : w5.cell? ⟨w2.heap.size, 0, none⟩ = some (.int .i64 qw) := grow_cell hgrow5 m2 (Ne.symm HUN2.out)
             have n3 : w5.cell? ⟨w2.heap.size, 1, none⟩ = some (.slice (some ⟨gq, 0, none⟩) qsy.length qc) := grow_cell hgrow5 m3 (Ne.symm HUN2.out)))
      have STEP := hid (pair_step (p := ⟨some ⟨gp, 0, none⟩, pc, pw, psy⟩) (q := ⟨some ⟨gq, 0, none⟩, qc, qw, qsy⟩) HI.out T2.out.1 T2.out.2.1 ⟨TT.out.1, TT.out.2.1, TT.out.2.2.1, TT.out.2.2.2.1, TT.out.2.2.2.2.1⟩ ⟨PN.out.1, PN.out.2.1, PN.out.2.2.1, PN.out.2.2.2.1, PN.out.2.2.2.2.2.2.1⟩ HIV.out hlt0 HB4.out HG0.out (by simp; omega) HOW4.out hgrow5 (by rw [List.length_append]; exact hown5))
      have hr2 := PN.out.2.2.2.2.2.2.2.1
      have HR2 := hid hr2
      clear hr2 hown5 hgrow5 hat5 hlt5 n0 n1 n2 n3 m0 m1 m2 m3 hwr
      go_wp2
      go_roundg (rs2.length + 1)
      case measure => have := HR2.out; omega
      case rel =>
        have hQ : (Q ++ [(⟨some ⟨g, 0, none⟩, cap, pw + qw, psy ++ qsy⟩ : Pc)]).length ≤ ps.length := by
          have h1 := congrArg List.length STEP.out.abs
          have h2 := STEP.out.perm.length_eq
          have h3 : ∀ l : List (Int × List Int), (pairsOf l).length ≤ l.length := fun l => pairsOf_le l
          have h4 := h3 ((L ++ [(⟨some ⟨gp, 0, none⟩, pc, pw, psy⟩ : Pc), ⟨some ⟨gq, 0, none⟩, qc, qw, qsy⟩]).map pabs)
          simp only [List.length_map, List.length_append] at h1 h2 h4 ⊢
          omega
        exact ⟨iv2, rs2, _, _, by omega, hQ, STEP.out⟩
end Go.Proofs.Ythdmjmnkhlpnnaa

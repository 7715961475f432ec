/-
  balelaw's World: what Write, Flush and Close make of what is known of it.
-/
import Derived.Test.YthdmjmnkhlpnnaaGreatDoorStlC
namespace Go.Proofs.YthdmjmnkhlpnnaaGreatDoor
open Go.RowKit Go.Maps

theorem Wfl.none {lv V L V' L' : Nat} {t t' : List UInt8} (h : Wfl lv V L t 0 V' L' t') : V' = V ∧ L' = L ∧ t' = t := by
  generalize hm : 0 = m at h
  cases h with
  | nil => exact ⟨rfl, rfl, rfl⟩
  | more m V' L' t' u ps _ _ _ => omega
theorem Wps.wrote {lv m V' L' : Nat} {hs' t' S W o : List UInt8} {to' fu : Bool} {a b f : Nat} {la : Bool} {e V L : Nat} {t hs : List UInt8} (h : Wps W o false to' fu a b f la e V L t hs) (hw : Wfl lv V L hs m V' L' hs') (ht : hs' ++ t' = hs ++ t ++ S) (hl : t'.length ≤ 65535) : (S ≠ [] → Wps (W ++ S) o false false false a b f false e V' L' t' hs') ∧ (S = [] → Wps (W ++ S) o false to' fu a b f la e V' L' t' hs') := by
  obtain ⟨T, m0, Vt, Lt, hg, rfl, h2, h3, h4, h5⟩ := h.op rfl
  obtain ⟨x, Vt', Lt', rfl, hg'⟩ := hg.wfl hw
  have hW : T ++ t ++ S = T ++ x ++ t' := by
    rw [List.append_assoc, List.append_assoc] at ht
    rw [List.append_assoc, List.append_assoc, List.append_cancel_left ht]
  refine ⟨fun _ => ⟨fun _ => ⟨T ++ x, _, Vt', Lt', hg', hW, hl, nofun, nofun, nofun⟩, nofun⟩, fun hS => ?_⟩
  subst hS
  by_cases hq : t = []
  · subst hq
    have hlen := hw.len
    rw [List.append_nil, List.append_nil] at ht
    have hlen2 := congrArg List.length ht
    rw [List.length_append] at hlen2
    obtain rfl : m = 0 := by omega
    obtain ⟨rfl, rfl, hx⟩ := hw.none
    obtain rfl : x = [] := by
      have := congrArg List.length hx
      rw [List.length_append] at this
      exact List.eq_nil_of_length_eq_zero (by omega)
    obtain rfl : t' = [] := List.eq_nil_of_length_eq_zero (by rw [hx] at hlen2; omega)
    rw [hx, List.append_nil]
    exact h
  · have e1 : to' = false := by
      cases to' with
      | false => rfl
      | true => exact absurd (h3 rfl).1 hq
    have e2 : la = false := by
      cases la with
      | false => rfl
      | true => have := (h4 rfl).1; rw [e1] at this; cases this
    have e3 : fu = false := by
      cases fu with
      | false => rfl
      | true => exact absurd (h5 rfl).2 hq
    subst e1
    subst e2
    subst e3
    exact ⟨fun _ => ⟨T ++ x, _, Vt', Lt', hg', hW, hl, nofun, nofun, nofun⟩, nofun⟩
theorem Wps.flushed {lv V' L' : Nat} {W o : List UInt8} {to' fu : Bool} {a b f : Nat} {la : Bool} {e V L : Nat} {t hs : List UInt8} (h : Wps W o false to' fu a b f la e V L t hs) (hf : Fls lv V L hs t V' L') (full : Bool) : Wps W o false true full a b (f + 1) true (e + 1) V' L' [] (if full then [] else hs ++ t) := by
  obtain ⟨T, m0, Vt, Lt, hg, rfl, h2, h3, h4, h5⟩ := h.op rfl
  obtain ⟨Vt', Lt', g1, g2, g3⟩ := hg.fls hf
  cases full with
  | true => exact ⟨fun _ => ⟨T ++ t, m0, Vt', Lt', by simpa using g1.forget, (List.append_nil _).symm, by simp, fun _ => ⟨rfl, g2⟩, fun _ => ⟨rfl, g3⟩, fun _ => by simp⟩, nofun⟩
  | false => exact ⟨fun _ => ⟨T ++ t, m0, Vt', Lt', by simpa using g1, (List.append_nil _).symm, by simp, fun _ => ⟨rfl, g2⟩, fun _ => ⟨rfl, g3⟩, nofun⟩, nofun⟩
theorem Wps.ended {lv : Nat} {ps : List (Nat × Nat)} {W o : List UInt8} {to' fu : Bool} {a b f : Nat} {la : Bool} {e V L : Nat} {t hs : List UInt8} (h : Wps W o false to' fu a b f la e V L t hs) (hb : Bq lv L hs true t ps) : Wps W o true true fu a b (f + 1) false e (V + 2 ^ L * pv ps) (L + pl ps + lft (L + pl ps)) [] [] := by
  obtain ⟨T, m0, Vt, Lt, hg, rfl, h2, h3, h4, h5⟩ := h.op rfl
  exact ⟨nofun, fun _ => ⟨rfl, rfl, by unfold lft; omega, m0, _, _, hg.close hb⟩⟩
theorem Wps.small {W o : List UInt8} {to' fu : Bool} {a b f : Nat} {la : Bool} {e V L : Nat} {t hs : List UInt8} (h : Wps W o false to' fu a b f la e V L t hs) (hW : W.length ≤ 1048576) (hf : f ≤ 300000) : t.length ≤ 65535 ∧ L ≤ 4294967296 ∧ hs.length ≤ 100000000000 ∧ e ≤ 100000000 := by
  have h1 := h.bnd
  obtain ⟨T, m, Vt, Lt, hg, h4⟩ := h.op rfl
  have h2 := hg.em
  rcases h1 with h1 | h1
  · omega
  · cases h1.1
theorem wst_kept {w : World} {Op Op' : Nat → Prop} {Z V L : Nat} {t : List UInt8} {lv : Nat} {hs : List UInt8} {c : Bool} {X : Nat} {cs : Array Value} {w0 : World} (hs1 : Sm w Op' Z V L t lv hs c) (hx : w.heap[X]? = some (.cells cs 109 (0, 0))) (hk : To (SmO X Op) (SmO X Op') w0 w) (j : Nat) (v : Value) : Sm (w.setCell ⟨X, j, none⟩ v) Op' Z V L t lv hs c ∧ To (SmO X Op) (SmO X Op') w0 (w.setCell ⟨X, j, none⟩ v) :=
  ⟨hs1.setx hx j v, ⟨hk.fr.set ⟨X, j, none⟩ (.inl rfl) v, hk.new⟩⟩
end Go.Proofs.YthdmjmnkhlpnnaaGreatDoor

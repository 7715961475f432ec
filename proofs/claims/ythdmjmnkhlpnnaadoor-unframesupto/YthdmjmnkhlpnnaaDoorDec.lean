/-
  Plain: what the bits of some data tell, block by block.
-/
import Derived.Test.YthdmjmnkhlpnnaaDoorSpan
namespace Go.Proofs.YthdmjmnkhlpnnaaDoor
open Go.RowKit

/-- what a reading comes to: where it stands and the text; or what is wrong, and the text so far -/
inductive Tx where
  | ok (p : Nat) (t : List UInt8)
  | no (e : Nat) (t : List UInt8)

/-- bytes again -/
def cpy (M : Int) (back p : Nat) : Nat → List UInt8 → Tx
  | 0, t => .ok p t
  | n + 1, t => if (t.length : Int) < M then cpy M back p n (t ++ [t.getD (t.length - back) 0]) else .no 6 t
/-- a step, and the bytes again -/
def agF (M : Int) (zb : List Int) (s : ByteArray) (n p : Nat) (t : List UInt8) : Tx :=
  match sym zb s p with
  | .no e => .no e t
  | .ok v q =>
    if 30 ≤ v then .no 4 t
    else if q + (bck v.toNat).2 ≤ 8 * s.size then
      if t.length < (bck v.toNat).1 + val s q (bck v.toNat).2 then .no 5 t
      else cpy M ((bck v.toNat).1 + val s q (bck v.toNat).2) (q + (bck v.toNat).2) n t
    else .no 1 t
/-- letters, up to 256 -/
def ltF (M : Int) (za zb : List Int) (s : ByteArray) : Nat → Nat → List UInt8 → Tx
  | 0, p, t => .ok p t
  | f + 1, p, t =>
    match sym za s p with
    | .no e => .no e t
    | .ok v q =>
      if v < 256 then
        if (t.length : Int) < M then ltF M za zb s f q (t ++ [UInt8.ofNat v.toNat]) else .no 6 t
      else if v = 256 then .ok q t
      else if v < 286 then
        if q + (agn (v - 257).toNat).2 ≤ 8 * s.size then
          match agF M zb s ((agn (v - 257).toNat).1 + val s q (agn (v - 257).toNat).2) (q + (agn (v - 257).toNat).2) t with
          | .ok p' t' => ltF M za zb s f p' t'
          | .no e t' => .no e t'
        else .no 1 t
      else .no 4 t
/-- so many bytes as they are -/
def rawF (M : Int) (s : ByteArray) : Nat → Nat → List UInt8 → Tx
  | 0, a, t => .ok (8 * a) t
  | n + 1, a, t =>
    if a < s.size then
      if (t.length : Int) < M then rawF M s n (a + 1) (t ++ [byu s a]) else .no 6 t
    else .no 1 t
/-- a block as it is -/
def asF (M : Int) (s : ByteArray) (p : Nat) (t : List UInt8) : Tx :=
  if (p + 7) / 8 * 8 + 32 ≤ 8 * s.size then
    if (val s ((p + 7) / 8 * 8 + 16) 16 : Int) = 65535 - (val s ((p + 7) / 8 * 8) 16 : Int) then rawF M s (val s ((p + 7) / 8 * 8) 16) ((p + 7) / 8 + 4) t
    else .no 2 t
  else .no 1 t
/-- how the lengths of the code of lengths come -/
def ord : List Nat := [16, 17, 18, 0, 8, 7, 9, 6, 10, 5, 11, 4, 12, 3, 13, 2, 14, 1, 15]
/-- the lengths of the code of lengths when k are read -/
def clF (s : ByteArray) (p : Nat) : Nat → List Int
  | 0 => List.replicate 19 0
  | k + 1 => (clF s p k).set (ord.getD k 0) (val s (p + 3 * k) 3)
inductive Ls where
  | ok (l : List Int) (p : Nat)
  | no (e : Nat)
/-- what a symbol of the code of lengths stands for -/
def tol (v : Int) (l : List Int) : Int := if v < 16 then v else if 16 < v then 0 else l.getD (l.length - 1) 0
/-- the lengths of N letters and steps -/
def lnF (zc : List Int) (s : ByteArray) (N : Nat) : Nat → List Int → Nat → Ls
  | 0, l, p => .ok l p
  | f + 1, l, p =>
    if l.length < N then
      match sym zc s p with
      | .no e => .no e
      | .ok v q =>
        if v = 16 ∧ l.length = 0 then .no 3
        else if q + (tms v.toNat).2 ≤ 8 * s.size then
          if N - l.length < (tms v.toNat).1 + val s q (tms v.toNat).2 then .no 3
          else lnF zc s N f (l ++ List.replicate ((tms v.toNat).1 + val s q (tms v.toNat).2) (tol v l)) (q + (tms v.toNat).2)
        else .no 1
    else .ok l p
inductive Cs where
  | ok (za zb : List Int) (p : Nat)
  | no (e : Nat)
/-- may these be the lengths of letters? -/
def mayL (zs : List Int) : Bool := decide (wt zs = 32768) || (decide (plc zs 15 = 1) && decide (cnt zs 1 = 1))
/-- may these be the lengths of steps? -/
def mayS (zs : List Int) : Bool := mayL zs || decide (plc zs 15 = 0)
/-- the codes that a block brings -/
def owF (s : ByteArray) (p : Nat) : Cs :=
  if p + 14 ≤ 8 * s.size then
    if 286 < 257 + val s p 5 ∨ 30 < 1 + val s (p + 5) 5 then .no 3
    else if p + 14 + 3 * (4 + val s (p + 10) 4) ≤ 8 * s.size then
      if wt (clF s (p + 14) (4 + val s (p + 10) 4)) = 32768 then
        match lnF (clF s (p + 14) (4 + val s (p + 10) 4)) s (257 + val s p 5 + (1 + val s (p + 5) 5)) (257 + val s p 5 + (1 + val s (p + 5) 5) + 1) [] (p + 14 + 3 * (4 + val s (p + 10) 4)) with
        | .no e => .no e
        | .ok l q =>
          if l.getD 256 0 ≠ 0 ∧ mayL (l.take (257 + val s p 5)) = true ∧ mayS (l.drop (257 + val s p 5)) = true then .ok (l.take (257 + val s p 5)) (l.drop (257 + val s p 5)) q
          else .no 3
      else .no 3
    else .no 1
  else .no 1
def zfa : List Int := List.replicate 144 8 ++ List.replicate 112 9 ++ List.replicate 24 7 ++ List.replicate 8 8
def zfb : List Int := List.replicate 32 5
/-- a block of a kind -/
def bkF (M : Int) (s : ByteArray) (k p : Nat) (t : List UInt8) : Tx :=
  if k = 0 then asF M s p t
  else if k = 1 then ltF M zfa zfb s (8 * s.size + 1) p t
  else if k = 2 then
    match owF s p with
    | .no e => .no e t
    | .ok za zb q => ltF M za zb s (8 * s.size + 1) q t
  else .no 2 t
/-- blocks -/
def blF (M : Int) (s : ByteArray) : Nat → Nat → List UInt8 → Tx
  | 0, p, t => .ok p t
  | f + 1, p, t =>
    if p + 3 ≤ 8 * s.size then
      match bkF M s (val s (p + 1) 2) (p + 3) t with
      | .no e t' => .no e t'
      | .ok q t' => if bitAt s p = 1 then .ok q t' else blF M s f q t'
    else .no 1 t
/-- all of it -/
def inF (s : ByteArray) (M : Int) : Tx := blF M s (8 * s.size + 1) 0 []

theorem cpy_end {M : Int} {b p n : Nat} {t t' : List UInt8} {q : Nat} (h : cpy M b p n t = .ok q t') : q = p := by
  induction n generalizing t with
  | zero => simp [cpy] at h; exact h.1.symm
  | succ n ih =>
    rw [cpy] at h
    split at h
    · exact ih h
    · simp at h
theorem agF_end {M : Int} {zb : List Int} {s : ByteArray} {n p : Nat} {t t' : List UInt8} {q : Nat} (h : agF M zb s n p t = .ok q t') : p < q ∧ q ≤ 8 * s.size := by
  unfold agF at h
  split at h
  · simp at h
  · rename_i v r hs
    have := sym_ok hs
    split at h
    · simp at h
    · split at h
      · split at h
        · simp at h
        · have := cpy_end h; omega
      · simp at h
end Go.Proofs.YthdmjmnkhlpnnaaDoor

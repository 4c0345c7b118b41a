import PyProof.Rows.All
import Wide.All
import OpenK.AllK
import Wide.FinOn
import HandS.ForMost
import HandS.RaiseMore
import HandS.Strs
import HandS.SetFor
import HandS.Conv
import HandS.Wide
import HandS.IsInst
import HandS.Codes
import PySem.Challenge.RW_evenfailover_k02_least_numbers_of_lists
set_option Elab.async false
set_option linter.all false
set_option maxRecDepth 100000
set_option maxHeartbeats 4000000
namespace Ef
/-- Pascal's triangle -/
def C : Nat → Nat → Nat
  | _, 0 => 1
  | 0, _ + 1 => 0
  | n + 1, k + 1 => C n k + C n (k + 1)
theorem C_zero (n : Nat) : C n 0 = 1 := by cases n <;> rfl
theorem C_zs (k : Nat) : C 0 (k + 1) = 0 := rfl
theorem C_ss (n k : Nat) : C (n + 1) (k + 1) = C n k + C n (k + 1) := rfl
theorem C_big : ∀ (n k : Nat), n < k → C n k = 0
  | 0, k + 1, _ => rfl
  | n + 1, k + 1, h => by
    rw [C_ss, C_big n k (by omega), C_big n (k + 1) (by omega)]
theorem C_self : ∀ n : Nat, C n n = 1
  | 0 => rfl
  | n + 1 => by rw [C_ss, C_self n, C_big n (n + 1) (by omega)]
theorem C_absorb : ∀ (n k : Nat), C (n + 1) (k + 1) * (k + 1) = (n + 1) * C n k
  | 0, 0 => rfl
  | 0, k + 1 => by
    rw [C_ss, C_zs, C_zs]; simp
  | n + 1, 0 => by
    have h := C_absorb n 0
    rw [C_zero] at h
    rw [C_ss, C_zero]
    omega
  | n + 1, j + 1 => by
    have h1 := C_absorb n j
    have h2 := C_absorb n (j + 1)
    have e : C (n + 1) (j + 1) = C n j + C n (j + 1) := C_ss n j
    rw [C_ss (n + 1) (j + 1)]
    have a1 : (C (n + 1) (j + 1) + C (n + 1) (j + 1 + 1)) * (j + 1 + 1) = C (n + 1) (j + 1) * (j + 1) + C (n + 1) (j + 1) + C (n + 1) (j + 1 + 1) * (j + 1 + 1) := by
      rw [Nat.add_mul, Nat.mul_succ (C (n + 1) (j + 1)) (j + 1)]
    rw [a1, h1, h2]
    have a2 : (n + 1 + 1) * C (n + 1) (j + 1) = (n + 1) * C (n + 1) (j + 1) + C (n + 1) (j + 1) := Nat.succ_mul _ _
    rw [a2]
    have a3 : (n + 1) * C (n + 1) (j + 1) = (n + 1) * C n j + (n + 1) * C n (j + 1) := by rw [e, Nat.mul_add]
    rw [a3]
    omega
theorem C_step (n k : Nat) (h : k ≤ n) : C n (k + 1) * (k + 1) = C n k * (n - k) := by
  have h1 := C_absorb n k
  rw [C_ss, Nat.add_mul] at h1
  have h2 : (n + 1) * C n k = C n k * (k + 1) + C n k * (n - k) := by
    rw [← Nat.mul_add, Nat.mul_comm]
    congr 1
    omega
  omega
theorem C_symm : ∀ (n k : Nat), k ≤ n → C n k = C n (n - k)
  | n, 0, _ => by rw [C_zero, Nat.sub_zero, C_self]
  | n + 1, k + 1, h => by
    by_cases e : k = n
    · subst e
      rw [C_self, Nat.sub_self, C_zero]
    · have e1 : n + 1 - (k + 1) = (n - (k + 1)) + 1 := by omega
      rw [e1, C_ss, C_ss, ← C_symm n (k + 1) (by omega), show n - (k + 1) + 1 = n - k by omega, ← C_symm n k (by omega), Nat.add_comm]
theorem C_le : ∀ (n k : Nat), C n k ≤ 2 ^ n
  | n, 0 => by rw [C_zero]; exact Nat.one_le_two_pow
  | 0, k + 1 => by rw [C_zs]; exact Nat.zero_le _
  | n + 1, k + 1 => by
    have a := C_le n k
    have b := C_le n (k + 1)
    rw [C_ss, Nat.pow_succ]
    omega
theorem C_pos : ∀ (n k : Nat), k ≤ n → 0 < C n k
  | n, 0, _ => by rw [C_zero]; decide
  | n + 1, k + 1, h => by
    rw [C_ss]
    have := C_pos n k (by omega)
    omega
theorem C_min (n k : Nat) (h : k ≤ n) : C n (min k (n - k)) = C n k := by
  by_cases e : k ≤ n - k
  · rw [Nat.min_eq_left e]
  · rw [Nat.min_eq_right (by omega), ← C_symm n k h]
theorem C_60 (n k : Nat) (h : n ≤ 60) : C n k ≤ 1152921504606846976 := Nat.le_trans (C_le n k) (Nat.le_trans (Nat.pow_le_pow_right (by decide) h) (by decide))
/-- what the program's binomial answers -/
def binZ (n k : Int) : Int := if k < 0 ∨ n < k then 0 else (C n.toNat k.toNat : Int)
theorem binZ_nat (n k : Nat) : binZ n k = (C n k : Int) := by
  unfold binZ
  by_cases h : n < k
  · rw [if_pos (by omega), C_big n k h]; rfl
  · rw [if_neg (by omega)]; simp
/-- one step of its product -/
theorem C_div (n s : Nat) (h : s < n) : ((C n s : Int) * ((n : Int) + 1 - (1 + (s : Int)))) / (1 + (s : Int)) = (C n (s + 1) : Int) := by
  have e : (C n s : Int) * ((n : Int) + 1 - (1 + (s : Int))) = (C n (s + 1) : Int) * (1 + (s : Int)) := by
    have h1 := C_step n s (by omega)
    have h2 : ((n : Int) + 1 - (1 + (s : Int))) = ((n - s : Nat) : Int) := by omega
    have h3 : (1 + (s : Int)) = ((s + 1 : Nat) : Int) := by omega
    rw [h2, h3, ← Int.natCast_mul, ← Int.natCast_mul, h1]
  rw [e]
  exact Int.mul_ediv_cancel _ (by omega)
end Ef
namespace Ef
/-! ### the least numbers of lists -/
def stepL (a b : Nat) : Nat := a / Nat.gcd a b * b
def leastL (n : Nat) : Nat → Nat
  | 0 => 1
  | d + 1 => stepL (leastL n d) (n * C (n - 1) d)
theorem stepL_pos {a b : Nat} (ha : 0 < a) (hb : 0 < b) : 0 < stepL a b := by
  unfold stepL
  have h1 : Nat.gcd a b ≤ a := Nat.gcd_le_left b ha
  have h2 : 0 < Nat.gcd a b := Nat.gcd_pos_of_pos_left b ha
  exact Nat.mul_pos (Nat.div_pos h1 h2) hb
theorem edge_pos {n d : Nat} (h : d < n) : 0 < n * C (n - 1) d := Nat.mul_pos (by omega) (C_pos _ _ (by omega))
theorem leastL_pos {n : Nat} : ∀ {d : Nat}, d ≤ n → 0 < leastL n d
  | 0, _ => Nat.one_pos
  | d + 1, h => stepL_pos (leastL_pos (by omega)) (edge_pos (by omega))
theorem C_adj : ∀ (n k : Nat), C n k + C n (k + 1) ≤ 2 ^ n
  | 0, 0 => by decide
  | 0, k + 1 => by
    rw [C_zs, C_zs]
    decide
  | n + 1, 0 => by
    have h := C_adj n 0
    have h1 : 1 ≤ 2 ^ n := Nat.one_le_two_pow
    rw [C_zero] at h
    rw [C_ss, C_zero, C_zero, Nat.pow_succ]
    omega
  | n + 1, j + 1 => by
    have h := C_adj n j
    have h2 := C_adj n (j + 1)
    rw [C_ss, C_ss, Nat.pow_succ]
    omega
theorem C_half (n k : Nat) (h : 1 ≤ n) : C n k ≤ 2 ^ (n - 1) := by
  obtain ⟨m, rfl⟩ : ∃ m, n = m + 1 := ⟨n - 1, by omega⟩
  cases k with
  | zero =>
    rw [C_zero]
    exact Nat.one_le_two_pow
  | succ k => exact C_adj m k
theorem edge_lt {n d : Nat} (h : n ≤ 60) : n * C (n - 1) d < 18446744073709551616 := by
  by_cases h1 : n ≤ 1
  · have e : n - 1 = 0 := by omega
    have h2 : C (n - 1) d ≤ 2 ^ 0 := by rw [e]; exact C_le 0 d
    exact Nat.lt_of_le_of_lt (Nat.mul_le_mul h1 h2) (by decide)
  · have h2 : C (n - 1) d ≤ 2 ^ 58 := Nat.le_trans (C_half (n - 1) d (by omega)) (Nat.pow_le_pow_right (by decide) (by omega))
    exact Nat.lt_of_le_of_lt (Nat.mul_le_mul h h2) (by decide)
/-! rows of the triangle, reckoned one from the other -/
def nextRow : List Nat → List Nat := fun r => 1 :: List.zipWith (· + ·) r r.tail
def isRow (n : Nat) (r : List Nat) : Prop := ∀ k, k ≤ 60 → r[k]? = some (C n k)
theorem nextRow_is {n : Nat} {r : List Nat} (h : isRow n r) : ∀ k, k ≤ 60 → (nextRow r)[k]? = some (C (n + 1) k)
  | 0, _ => by
    rw [C_zero]
    rfl
  | k + 1, hk => by
    have h1 := h k (by omega)
    have h2 := h (k + 1) hk
    unfold nextRow
    rw [List.getElem?_cons_succ, List.getElem?_zipWith, h1, List.getElem?_tail, h2]
    rfl
def row0 : List Nat := 1 :: List.replicate 60 0
theorem row0_is : isRow 0 row0 := fun k hk => by
  cases k with
  | zero => rfl
  | succ k =>
    unfold row0
    rw [List.getElem?_cons_succ, List.getElem?_replicate, if_pos (by omega)]
    rfl
/-- P holds along the chain of least numbers: f of each -/
def chainOk (n : Nat) (f : Nat → Nat → Bool) : Nat → Nat → Nat → List Nat → Bool
  | 0, d, a, _ => f d a
  | m + 1, d, a, c :: r => f d a && chainOk n f m (d + 1) (stepL a (n * c)) r
  | _ + 1, _, _, [] => false
theorem chain_all {n : Nat} {f : Nat → Nat → Bool} {row : List Nat} (hr : isRow (n - 1) row) (hn : n ≤ 60) : ∀ (m d : Nat), d + m = n → chainOk n f m d (leastL n d) (row.drop d) = true → ∀ e, d ≤ e → e ≤ n → f e (leastL n e) = true
  | 0, d, h, ok, e, h1, h2 => by
    have e1 : e = d := by omega
    subst e1
    exact ok
  | m + 1, d, h, ok, e, h1, h2 => by
    have hd := hr d (by omega)
    have hlt : d < row.length := (List.getElem?_eq_some_iff.mp hd).1
    have hdr : row.drop d = C (n - 1) d :: row.drop (d + 1) := by
      rw [List.drop_eq_getElem_cons hlt]
      congr 1
      rw [List.getElem?_eq_getElem hlt] at hd
      exact Option.some.inj hd
    rw [hdr] at ok
    have ok2 : (f d (leastL n d) && chainOk n f m (d + 1) (leastL n (d + 1)) (row.drop (d + 1))) = true := ok
    rw [Bool.and_eq_true] at ok2
    by_cases c : e = d
    · rw [c]
      exact ok2.1
    · exact chain_all hr hn m (d + 1) (by omega) ok2.2 e (by omega) h2
def rowsOk (f : Nat → Nat → Nat → Bool) : Nat → Nat → List Nat → Bool
  | 0, _, _ => true
  | m + 1, n, row => chainOk n (f n) n 0 1 row && rowsOk f m (n + 1) (nextRow row)
theorem rows_all {f : Nat → Nat → Nat → Bool} : ∀ (m n : Nat) (row : List Nat), isRow (n - 1) row → 1 ≤ n → rowsOk f m n row = true → ∀ k, n ≤ k → k < n + m → k ≤ 60 → ∀ d, d ≤ k → f k d (leastL k d) = true
  | 0, _, _, _, _, _, k, h1, h2, _, _, _ => by omega
  | m + 1, n, row, hr, h0, ok, k, h1, h2, h6, d, hd => by
    have ok2 : (chainOk n (f n) n 0 1 row && rowsOk f m (n + 1) (nextRow row)) = true := ok
    rw [Bool.and_eq_true] at ok2
    by_cases c : k = n
    · subst c
      exact chain_all hr h6 k 0 (by omega) ok2.1 d (by omega) hd
    · have hr2 : isRow (n + 1 - 1) (nextRow row) := fun j hj => by
        have e : n + 1 - 1 = (n - 1) + 1 := by omega
        rw [e]
        exact nextRow_is hr j hj
      exact rows_all m (n + 1) (nextRow row) hr2 (by omega) ok2.2 k (by omega) (by omega) h6 d hd
theorem small_ok : rowsOk (fun _ _ a => Nat.blt a (2 ^ 100)) 60 1 row0 = true := by decide +kernel
theorem leastL_lt {n d : Nat} (h1 : 1 ≤ n) (h6 : n ≤ 60) (hd : d ≤ n) : leastL n d < 2 ^ 100 := by
  have h := rows_all 60 1 row0 row0_is (by decide) small_ok n h1 (by omega) h6 d hd
  have h2 : Nat.blt (leastL n d) (2 ^ 100) = true := h
  rw [Nat.blt_eq] at h2
  exact h2
end Ef
namespace Ef
/-! ### a least common multiple, told by primes -/
def primes59 : List Nat := [2, 3, 5, 7, 11, 13, 17, 19, 23, 29, 31, 37, 41, 43, 47, 53, 59]
/-- p divided out, at most f times -/
def stripF : Nat → Nat → Nat → Nat
  | 0, _, l => l
  | f + 1, p, l => if l % p = 0 then stripF f p (l / p) else l
structure IsLst (N : Nat) (ds : List Nat) : Prop where
  all : ∀ x ∈ ds, N % x = 0
  some : ∀ p ∈ primes59, N % p = 0 → ∃ x ∈ ds, N / p % x ≠ 0
  strip : primes59.foldl (fun l p => stripF 100 p l) N = 1
def isLstB (N : Nat) (ds : List Nat) : Bool :=
  ds.all (fun x => Nat.beq (N % x) 0) && primes59.all (fun p => !Nat.beq (N % p) 0 || ds.any (fun x => !Nat.beq (N / p % x) 0)) && Nat.beq (primes59.foldl (fun l p => stripF 100 p l) N) 1
theorem isLst_of {N : Nat} {ds : List Nat} (h : isLstB N ds = true) : IsLst N ds := by
  unfold isLstB at h
  rw [Bool.and_eq_true, Bool.and_eq_true] at h
  obtain ⟨⟨h1, h2⟩, h3⟩ := h
  refine ⟨fun x hx => Nat.eq_of_beq_eq_true (List.all_eq_true.mp h1 x hx), fun p hp hN => ?_, Nat.eq_of_beq_eq_true h3⟩
  have h4 := List.all_eq_true.mp h2 p hp
  rw [hN, show Nat.beq 0 0 = true from rfl, Bool.not_true, Bool.false_or] at h4
  obtain ⟨x, hx, h5⟩ := List.any_eq_true.mp h4
  refine ⟨x, hx, fun z => ?_⟩
  rw [z] at h5
  exact absurd h5 (by decide)
theorem IsLst.congr {N : Nat} {ds es : List Nat} (h : IsLst N ds) (e : ∀ x, x ∈ ds ↔ x ∈ es) : IsLst N es :=
  ⟨fun x hx => h.all x ((e x).mpr hx), fun p hp hN => by
    obtain ⟨x, hx, h1⟩ := h.some p hp hN
    exact ⟨x, (e x).mp hx, h1⟩, h.strip⟩
/-! the divisors below a depth, the last one first -/
def rdivs (n : Nat) : Nat → List Nat
  | 0 => []
  | d + 1 => (n * C (n - 1) d) :: rdivs n d
def divN (n : Nat) : List Nat := (List.range n).map fun l => n * C (n - 1) l
theorem mem_rdivs {n x : Nat} : ∀ {d : Nat}, x ∈ rdivs n d ↔ ∃ l, l < d ∧ x = n * C (n - 1) l
  | 0 => ⟨(fun h => nomatch h), fun ⟨l, h, _⟩ => absurd h (Nat.not_lt_zero _)⟩
  | d + 1 => by
    show x ∈ (n * C (n - 1) d) :: rdivs n d ↔ _
    rw [List.mem_cons, mem_rdivs (d := d)]
    constructor
    · rintro (h | ⟨l, hl, h⟩)
      · exact ⟨d, by omega, h⟩
      · exact ⟨l, by omega, h⟩
    · rintro ⟨l, hl, h⟩
      by_cases c : l = d
      · subst c
        exact .inl h
      · exact .inr ⟨l, by omega, h⟩
theorem mem_divN {n d x : Nat} (h : d ≤ n) : x ∈ (divN n).take d ↔ x ∈ rdivs n d := by
  unfold divN
  rw [mem_rdivs, ← List.map_take, List.take_range, Nat.min_eq_left h, List.mem_map]
  constructor
  · rintro ⟨l, hl, e⟩
    exact ⟨l, List.mem_range.mp hl, e.symm⟩
  · rintro ⟨l, hl, e⟩
    exact ⟨l, List.mem_range.mpr hl, e.symm⟩
def chain2 (n : Nat) (f : Nat → Nat → List Nat → Bool) : Nat → Nat → Nat → List Nat → List Nat → Bool
  | 0, d, a, pre, _ => f d a pre
  | m + 1, d, a, pre, c :: r => f d a pre && chain2 n f m (d + 1) (stepL a (n * c)) (n * c :: pre) r
  | _ + 1, _, _, _, [] => false
theorem chain2_all {n : Nat} {f : Nat → Nat → List Nat → Bool} {row : List Nat} (hr : isRow (n - 1) row) (hn : n ≤ 60) : ∀ (m d : Nat), d + m = n → chain2 n f m d (leastL n d) (rdivs n d) (row.drop d) = true → ∀ e, d ≤ e → e ≤ n → f e (leastL n e) (rdivs n e) = true
  | 0, d, h, ok, e, h1, h2 => by
    have e1 : e = d := by omega
    subst e1
    exact ok
  | m + 1, d, h, ok, e, h1, h2 => by
    have hd := hr d (by omega)
    have hlt : d < row.length := (List.getElem?_eq_some_iff.mp hd).1
    have hdr : row.drop d = C (n - 1) d :: row.drop (d + 1) := by
      rw [List.drop_eq_getElem_cons hlt]
      congr 1
      rw [List.getElem?_eq_getElem hlt] at hd
      exact Option.some.inj hd
    rw [hdr] at ok
    have ok2 : (f d (leastL n d) (rdivs n d) && chain2 n f m (d + 1) (leastL n (d + 1)) (rdivs n (d + 1)) (row.drop (d + 1))) = true := ok
    rw [Bool.and_eq_true] at ok2
    by_cases c : e = d
    · rw [c]
      exact ok2.1
    · exact chain2_all hr hn m (d + 1) (by omega) ok2.2 e (by omega) h2
def rows2 (f : Nat → Nat → Nat → List Nat → Bool) : Nat → Nat → List Nat → Bool
  | 0, _, _ => true
  | m + 1, n, row => chain2 n (f n) n 0 1 [] row && rows2 f m (n + 1) (nextRow row)
theorem rows2_all {f : Nat → Nat → Nat → List Nat → Bool} : ∀ (m n : Nat) (row : List Nat), isRow (n - 1) row → 1 ≤ n → rows2 f m n row = true → ∀ k, n ≤ k → k < n + m → k ≤ 60 → ∀ d, d ≤ k → f k d (leastL k d) (rdivs k d) = true
  | 0, _, _, _, _, _, k, h1, h2, _, _, _ => by omega
  | m + 1, n, row, hr, h0, ok, k, h1, h2, h6, d, hd => by
    have ok2 : (chain2 n (f n) n 0 1 [] row && rows2 f m (n + 1) (nextRow row)) = true := ok
    rw [Bool.and_eq_true] at ok2
    by_cases c : k = n
    · subst c
      exact chain2_all hr h6 k 0 (by omega) ok2.1 d (by omega) hd
    · have hr2 : isRow (n + 1 - 1) (nextRow row) := fun j hj => by
        have e : n + 1 - 1 = (n - 1) + 1 := by omega
        rw [e]
        exact nextRow_is hr j hj
      exact rows2_all m (n + 1) (nextRow row) hr2 (by omega) ok2.2 k (by omega) (by omega) h6 d hd
def leastOk (n d a : Nat) (pre : List Nat) : Bool := isLstB a pre && (!Nat.beq d n || isLstB a (List.range' 1 n))
theorem least_ok : rows2 leastOk 60 1 row0 = true := by decide +kernel
theorem leastL_is {n d : Nat} (h1 : 1 ≤ n) (h6 : n ≤ 60) (hd : d ≤ n) : IsLst (leastL n d) ((divN n).take d) := by
  have h := rows2_all 60 1 row0 row0_is (by decide) least_ok n h1 (by omega) h6 d hd
  have h2 : (isLstB (leastL n d) (rdivs n d) && (!Nat.beq d n || isLstB (leastL n d) (List.range' 1 n))) = true := h
  rw [Bool.and_eq_true] at h2
  exact (isLst_of h2.1).congr fun x => (mem_divN hd).symm
theorem leastL_full {n : Nat} (h1 : 1 ≤ n) (h6 : n ≤ 60) : IsLst (leastL n n) (List.range' 1 n) := by
  have h := rows2_all 60 1 row0 row0_is (by decide) least_ok n h1 (by omega) h6 n (Nat.le_refl n)
  have h2 : (isLstB (leastL n n) (rdivs n n) && (!Nat.beq n n || isLstB (leastL n n) (List.range' 1 n))) = true := h
  rw [Bool.and_eq_true, Nat.beq_refl n, Bool.not_true, Bool.false_or] at h2
  exact isLst_of h2.2
theorem least_60_3 : leastL 60 3 = 102660 := by decide +kernel
theorem strip_pos (p : Nat) (hp : 2 ≤ p) : ∀ (f l : Nat), 0 < l → l < 2 ^ f → stripF f p l % p ≠ 0 ∧ 0 < stripF f p l ∧ stripF f p l ≤ l
  | 0, l, h0, h1 => by
    have h2 : l < 1 := h1
    omega
  | f + 1, l, h0, h1 => by
    unfold stripF
    by_cases c : l % p = 0
    · rw [if_pos c]
      have hd : p * (l / p) = l := by
        have h9 := Nat.div_add_mod l p
        omega
      have q0 : 0 < l / p := by
        rcases Nat.eq_zero_or_pos (l / p) with z | z
        · rw [z] at hd
          omega
        · exact z
      have q1 : l / p < 2 ^ f := by
        have h9 : 2 * (l / p) ≤ p * (l / p) := Nat.mul_le_mul_right _ hp
        rw [Nat.pow_succ] at h1
        omega
      obtain ⟨a, b, c2⟩ := strip_pos p hp f (l / p) q0 q1
      exact ⟨a, b, Nat.le_trans c2 (Nat.div_le_self _ _)⟩
    · rw [if_neg c]
      exact ⟨c, h0, Nat.le_refl _⟩
end Ef
namespace Ef
open PySem PySem.Spec PyProof.Rows L2
/-! ### a call whose arguments are all given by name -/
def permL {α : Type} (perm : List Nat) (n : Nat) (us ws : List α) : List α :=
  if us.length = 0 ∧ ws.length = n then perm.filterMap (fun i => ws[i]?) else []
theorem paired_len {α β : Type} {F : α → β → Prop} : ∀ {l : List α} {m : List β}, Paired F l m → l.length = m.length
  | _, _, .nil => rfl
  | _, _, .cons _ t => congrArg (· + 1) (paired_len t)
theorem paired_at {α β : Type} {F : α → β → Prop} : ∀ {l : List α} {m : List β}, Paired F l m → ∀ i : Nat, (l[i]? = none ∧ m[i]? = none) ∨ ∃ x y, l[i]? = some x ∧ m[i]? = some y ∧ F x y
  | _, _, .nil, _ => .inl ⟨rfl, rfl⟩
  | _, _, .cons h _, 0 => .inr ⟨_, _, rfl, rfl, h⟩
  | _, _, .cons _ t, i + 1 => by
    rw [List.getElem?_cons_succ, List.getElem?_cons_succ]
    exact paired_at t i
theorem paired_pick {α β : Type} {F : α → β → Prop} {l : List α} {m : List β} (h : Paired F l m) : ∀ perm : List Nat, Paired F (perm.filterMap (fun i => l[i]?)) (perm.filterMap (fun i => m[i]?))
  | [] => .nil
  | i :: r => by
    rcases paired_at h i with ⟨e1, e2⟩ | ⟨x, y, e1, e2, f⟩
    · rw [List.filterMap_cons_none e1, List.filterMap_cons_none e2]
      exact paired_pick h r
    · rw [List.filterMap_cons_some e1, List.filterMap_cons_some e2]
      exact .cons f (paired_pick h r)
theorem permL_rel {perm : List Nat} {n : Nat} {vs zs : List V} {us ws : List Value} (r : Vals vs us) (rz : Vals zs ws) : Vals (permL perm n vs zs) (permL perm n us ws) := by
  unfold permL
  rw [paired_len r, paired_len rz]
  by_cases h : us.length = 0 ∧ ws.length = n
  · rw [if_pos h, if_pos h]
    exact paired_pick rz perm
  · rw [if_neg h, if_neg h]
    exact .nil
theorem kb_of {K : PySem.W.Frag} {fd : FuncData} {ps ks : List Str} {perm : List Nat} {n : Nat} (h0 : ps ≠ [])
    (h : ∀ ws : List Value, ws.length = n → bindArgs fd ⟨[], ks.zip ws⟩ = pure (ps.zip (perm.filterMap (fun i => ws[i]?)))) :
    KBinds K fd ps ks (permL perm n) (permL perm n) := by
  refine ⟨fun s us ws _ hl => ?_, fun r rz => permL_rel r rz⟩
  unfold permL at hl ⊢
  by_cases c : us.length = 0 ∧ ws.length = n
  · rw [if_pos c]
    have e : us = [] := List.length_eq_zero_iff.mp c.1
    subst e
    exact .of_eq (h ws c.2)
  · rw [if_neg c] at hl
    exact absurd (List.length_eq_zero_iff.mp hl.symm) h0
theorem Fun_kb {K : PySem.W.Frag} {x qual : Str} {st : Stmt} {f : Addr} {fd : FuncData} {ps ks : List Str} (perm : List Nat) (n : Nat) (F : Fun K x qual st f fd) (h0 : ps ≠ [])
    (h : ∀ (kV doc pm : Value) (an : Option Addr) (cdv ct : Value) (ws : List Value), ws.length = n → bindArgs (PySem.W.fnOf x qual (defArgs st) (defBody st) (defScope st) .none kV doc pm an cdv ct) ⟨[], ks.zip ws⟩ = pure (ps.zip (perm.filterMap (fun i => ws[i]?)))) :
    KBinds K fd ps ks (permL perm n) (permL perm n) := by
  obtain ⟨oc, od, kV, doc, pm, an, cdv, ct, osl, rfl, lk, hcd⟩ := F.ex
  exact kb_of h0 (h kV doc pm an cdv ct)
section
variable {X : Cx} {CX : CXT} {k : Nat} {f : Addr} {fd : FuncData} {ps ks : List Str} {sp : Sp} {E : XK} {x : Str} {p pos : Pos} {kws : List Keyword} {tk : TA}
variable {g : List Value → List Value → List Value} {gV : List V → List V → List V}
/-- f(k = v, ..) -/
theorem pe_kw (F : FnOk X.prog X.w X.K X.mg X.base CX k f fd ps sp) (hr : Room k X.A) (hg : Gl X x) (hm : X.mg x = some (.ref f))
    (hk : PySem.W.keepIn X.K (.ref f) = true) (hb : KBinds X.K fd ps ks g gV) (hx : Passes CX X E) (hkw : PK X kws tk)
    (a1 : (backToKw pos (keywordEach kws X.env)).all (fun z => z.1.isSome) = true := by rfl)
    (a2 : (backToKw pos (keywordEach kws X.env)).filterMap (fun z => z.1) = ks := by rfl)
    (a3 : (x == ("__debug__" : Str)) = false := by decide)
    (a4 : ((backTo pos (starEach [] X.env)).any (fun z => z.1) || (backToKw pos (keywordEach kws X.env)).any (fun z => z.1.isNone)) = false := by rfl) :
    PE X (.Call (.Name x p) [] kws pos) (tCallK sp gV E tNil tk) := by
  refine ⟨fun pins s σ H Q I h => wpAny_Call_Name_kw (ld_glob I hg hm ?_ a3)⟩
  refine PySem.W.callWith_KW0 (h₀ := X.base) I.ok.mod.kin hk a1 ?_ a4
  refine thn (hkw.run pos pins s σ H _ I h) fun ws s2 z => ?_
  obtain ⟨zs, H2, I2, rz, q2⟩ := z
  refine ⟨I2.kIn, ?_⟩
  rw [a2]
  exact run_fnk (us := []) (vs := []) F hr hb hx I2 .nil rz q2
end
/-! ### heaps -/
theorem same_new {H : Hp} {p : Addr} {o : HO} (h : H p = none) : Same H (upd H p o) := fun b x e => by
  rw [upd_ne (ne_of_none e h)]
  exact e
theorem keep_upd {H H1 : Hp} {p : Addr} {o : HO} (s : Same H H1) (h : H p = none) : Same H (upd H1 p o) := fun b x e => by
  rw [upd_ne (ne_of_none e h)]
  exact s b x e
/-- all but what stands at p is as it was -/
def But (p : Addr) (H H' : Hp) : Prop := ∀ b o, b ≠ p → H b = some o → H' b = some o
theorem But.refl (p : Addr) (H : Hp) : But p H H := fun _ _ _ e => e
theorem But.trans {p : Addr} {H H1 H2 : Hp} (s : But p H H1) (t : But p H1 H2) : But p H H2 := fun b o n e => t b o n (s b o n e)
theorem But.same {p : Addr} {H H1 H2 : Hp} (s : But p H H1) (t : Same H1 H2) : But p H H2 := fun b o n e => t b o (s b o n e)
theorem But.of {p : Addr} {H H1 : Hp} (t : Same H H1) : But p H H1 := fun b o _ e => t b o e
theorem But.upd {p : Addr} {H H1 : Hp} {o : HO} (s : But p H H1) : But p H (upd H1 p o) := fun b x n e => by
  rw [upd_ne n]
  exact s b x n e
theorem But.to {p : Addr} {H H1 : Hp} (s : But p H H1) (h : H p = none) : Same H H1 := fun b x e => s b x (ne_of_none e h) e
theorem But.seq {K : PySem.W.Frag} {p a : Addr} {H H' : Hp} {xs : List V} (e : But p H H') (n : a ≠ p) (h : SqL K H a xs) : SqL K H' a xs := by
  rcases h with (h | ⟨o, h⟩) | h
  · exact .inl (.inl (e _ _ n h))
  · exact .inl (.inr ⟨o, e _ _ n h⟩)
  · exact .inr h
end Ef
namespace Ef
open PySem PySem.Spec PyProof.Rows L2
/-! ### promises of defs that are called where no repr is under way -/
structure FnG (P : Program) (w : World) (K : PySem.W.Frag) (mg : Str → Option Value) (base : Heap) (CX : CXT) (k : Nat) (f : Addr) (fd : FuncData) (ps : List Str) (sp : Sp) : Prop where
  len : ∀ vs H Q E, sp vs H Q E → vs.length = ps.length
  run : ∀ (A : Around), A.guards = some [] → ∀ (outer : List Env) (s : Shared) (H : Hp) (args : Args) (us : List Value) (vs : List V) (Q : VK) (E : XK),
    Room k A → Env0 P w K mg base A outer s H → BindsTo s fd args (ps.zip us) → Vals vs us → sp vs H Q E →
      codeAny (model P w) A (.call (.ref f) args) (CR CX outer P w H s Q E) s
section
variable {P : Program} {w : World} {K : PySem.W.Frag} {mg : Str → Option Value} {base : Heap} {CX : CXT}
theorem FnG.of {k : Nat} {f : Addr} {fd : FuncData} {ps : List Str} {sp : Sp} (F : FnOk P w K mg base CX k f fd ps sp) : FnG P w K mg base CX k f fd ps sp :=
  ⟨F.len, fun A _ outer s H args us vs Q E => F.run A outer s H args us vs Q E⟩
theorem Fun_okG {x qual : Str} {st : Stmt} {f : Addr} {fd : FuncData} {N ps : List Str} {k : Nat} {sp : Sp} (F : Fun K x qual st f fd) (S : FnScope N ps (defScope st)) (len : ∀ vs H Q E, sp vs H Q E → vs.length = ps.length)
    (bod : ∀ (cdv : Value) (A : Around) (outer : List Env) (s : Shared) (H : Hp) (vs : List V) (Q : VK) (E : XK), A.guards = some [] → Room k (A.deeper (envOfC qual (defScope st) s.heap.objs.size f cdv)) → sp vs H Q E →
      ∃ t, PSs (cxOf CX P w K mg base N qual (defScope st) f cdv A outer s H E) (defBody st) t ∧ t { nx := fun _ H' => Q .non H', rt := Q } (start N vs) H) :
    FnG P w K mg base CX (k + 1) f fd ps sp := by
  obtain ⟨oc, od, kV, doc, pm, an, cdv, ct, osl, rfl, lk, hcd⟩ := F.ex
  refine ⟨len, fun A gd outer s H args us vs Q E room e0 bnd rel wish => ?_⟩
  have kin : K.In s.heap := e0.mod.kin.keeps fun b o z => (e0.bs b o z).1
  have nolim : s.heap.NoLimit := e0.mod.nolimit.keeps fun b o z => (e0.bs b o z).1
  refine codeAny_call_function room.depth (kin _ _ lk) rfl S.co S.gen rfl (PySem.W.codeRec_of kin hcd) (bnd _ _ _ _ ?_)
  refine wpAny_newFunctionEnv_cells S.kind ?_ fun env hev s1 ic => ?_
  · rintro ⟨n, v⟩ hy
    rcases S.par n (List.of_mem_zip hy).1 with z | z
    · exact .inl z
    · exact .inr ⟨z, PySem.W.cellsFrom_some _ _ _ (.inl z)⟩
  · subst hev
    refine ⟨nolim.keeps ic.toInCall.keep, codeAny_func ?_⟩
    obtain ⟨t, pt, rd⟩ := bod cdv A outer s H vs Q E gd (room.deeper _) wish
    have J0 := inv_start (CX := CX) (E := E) S room.hd e0 (len _ _ _ _ wish) rel ic
    refine wpAny_mono (pt.run [] s1 (start N vs) H _ J0 rd) (fun fl s' got => ?_) fun e s' got => got
    cases fl with
    | brk =>
      obtain ⟨_, _, _, z⟩ := got
      exact z.elim
    | cont =>
      obtain ⟨_, _, _, z⟩ := got
      exact z.elim
    | next =>
      obtain ⟨σ', H', J, z⟩ := got
      exact ⟨V.non, H', J.os, J.bare, J.base, J.hok, (rfl : RelV V.non Value.none), z⟩
    | ret u =>
      obtain ⟨v, σ', H', J, rv, z⟩ := got
      exact ⟨v, H', J.os, J.bare, J.base, J.hok, rv, z⟩
end
/-- the same of a def that lets no exception out -/
theorem Fun_ok0 {P : Program} {w : World} {K : PySem.W.Frag} {mg : Str → Option Value} {base : Heap} {x qual : Str} {st : Stmt} {f : Addr} {fd : FuncData} {N ps : List Str} {k : Nat} {sp : Sp} (F : Fun K x qual st f fd) (S : FnScope N ps (defScope st)) (len : ∀ vs H Q E, sp vs H Q E → vs.length = ps.length)
    (bod : ∀ (cdv : Value) (A : Around) (outer : List Env) (s : Shared) (H : Hp) (vs : List V) (Q : VK) (E : XK), A.guards = some [] → Room k (A.deeper (envOfC qual (defScope st) s.heap.objs.size f cdv)) → sp vs H Q E →
      ∃ t, PSs (cxOf CX0 P w K mg base N qual (defScope st) f cdv A outer s H E).nox (defBody st) t ∧ t { nx := fun _ H' => Q .non H', rt := Q } (start N vs) H) :
    FnG P w K mg base CX0 (k + 1) f fd ps sp :=
  Fun_okG F S len fun cdv A outer s H vs Q E gd room wish => by
    obtain ⟨t, pt, rd⟩ := bod cdv A outer s H vs Q E gd room wish
    exact ⟨t, pt.nox, rd⟩
section
variable {X : Cx} {CX : CXT} {k : Nat} {f : Addr} {fd : FuncData} {ps : List Str} {sp : Sp} {E : XK} {x : Str} {p pos : Pos} {e : Expr} {es : List Expr} {t : TA}
theorem run_G {pins : List (Addr × Obj)} {σ : L2.St} {H : Hp} {s : Shared} {Q : VK} {us : List Value} {vs : List V} (F : FnG X.prog X.w X.K X.mg X.base CX k f fd ps sp)
    (gd : X.A.guards = some []) (room : Room k X.A) (bnd : Binds X.K fd ps []) (pass : Passes CX X E) (I : Inv X pins σ H s) (rel : Vals vs us) (wish : sp vs H Q E) :
    wpAny (model X.prog X.w) X.A (call (.ref f) us) (EP X pins σ Q) X.xe s := by
  have hl : (us ++ []).length = ps.length := by
    rw [List.append_nil, ← rel.length]
    exact F.len _ _ _ _ wish
  have b1 := bnd s us I.kIn hl
  rw [List.append_nil] at b1
  refine wpAny_call (codeAny_mono (F.run X.A gd X.stack s H ⟨us, []⟩ us vs Q E room I.env0 b1 rel wish) fun res s' got => ?_)
  cases res with
  | error z => exact pass pins σ H s z s' I got
  | ok fl =>
    cases fl with
    | ret u => exact I.after got
    | next => exact got.elim
    | brk => exact got.elim
    | cont => exact got.elim
/-- f(e, ..) of a def whose promise holds where no repr is under way -/
theorem pe_callG (F : FnG X.prog X.w X.K X.mg X.base CX k f fd ps sp) (gd : X.A.guards = some []) (room : Room k X.A) (hg : Gl X x) (hm : X.mg x = some (.ref f))
    (hk : PySem.W.keepIn X.K (.ref f) = true) (bnd : Binds X.K fd ps []) (pass : Passes CX X E) (ha : PA X (e :: es) t)
    (a1 : (x == ("__debug__" : Str)) = false := by decide) (a2 : starEach (e :: es) X.env = (false, eval e X.env) :: starEach es X.env := by rfl)
    (a3 : (backTo pos (starEach es X.env)).any (fun z => z.1) = false := by rfl) :
    PE X (.Call (.Name x p) (e :: es) [] pos) (tCall sp [] E t) := by
  refine ⟨fun pins s σ H Q I h => wpAny_Call_Name_kw (ld_glob I hg hm ?_ a1)⟩
  refine PySem.W.callWith_K (h₀ := X.base) I.ok.mod.kin hk (thn (ha.run pos pins s σ H _ I h) fun us s1 z => ?_) a2 a3
  obtain ⟨vs, H1, I1, r, q⟩ := z
  rw [List.append_nil] at q
  exact ⟨I1.kIn, run_G F gd room bnd pass I1 r q⟩
end
/-! ### the law's own end, where no repr is under way -/
def scriptObj (vs : List Value) : Obj := { cls := .type "list", data := .seq vs.toArray }
def scriptHp (K : PySem.W.Frag) (a : Addr) (vs : List Value) (ns : List Int) : Hp := fun b => if b = a ∧ K.lookup a = none then some (.frz (scriptObj vs) (.lst (ns.map V.int))) else none
section
variable {K : PySem.W.Frag} {a : Addr} {vs : List Value} {ns : List Int}
theorem scriptHp_only : Only (scriptHp K a vs ns) := fun b => by
  unfold scriptHp
  by_cases c : b = a ∧ K.lookup a = none
  · exact .inr ⟨_, _, if_pos c⟩
  · exact .inl (if_neg c)
theorem scriptHp_some {b : Addr} {u : HO} (h : scriptHp K a vs ns b = some u) : b = a ∧ K.lookup a = none ∧ u = .frz (scriptObj vs) (.lst (ns.map V.int)) := by
  unfold scriptHp at h
  by_cases c : b = a ∧ K.lookup a = none
  · rw [if_pos c] at h
    exact ⟨c.1, c.2, (Option.some.inj h).symm⟩
  · rw [if_neg c] at h
    cases h
theorem scriptHp_none {b : Addr} {o : Obj} {h : Heap} (ha : h.get? a = some (scriptObj vs)) (e : h.get? b = some o) (hd : ∀ its n, o.data ≠ .seq its n) : scriptHp K a vs ns b = none := by
  cases q : scriptHp K a vs ns b with
  | none => rfl
  | some u =>
    obtain ⟨rfl, _, _⟩ := scriptHp_some q
    rw [ha] at e
    cases e
    exact absurd rfl (hd vs.toArray _)
theorem lawG {l : PySem.W.OpenLaw} {n k : Nat} {q : Program} {loose : List Str} {XP : (Str → Option Value) → Heap → Prop} {YP : World → Heap → Prop} {d : DefRec} {K : Params → PySem.W.Frag} {sp : World → Sp} {x : Str}
    (hn : l.most = some n) (hn2 : n ≤ sizeLine) (hdf : d.params.defaults = []) (room : Room k callerA)
    (hY : ∀ (w : World) (h : Heap), YP w h → (K w.params).In h)
    (F : ∀ (w : World) (mg : Str → Option Value) (fa : Addr) (h : Heap), (K w.params).In h → h.Ns mainGlobals mg → mg d.name = some (.ref fa) →
      ∃ fd : FuncData, (∀ (s : Shared) (u : Value), BindsTo s fd ⟨[u], []⟩ [(x, u)]) ∧
        ∀ base : Heap, (K w.params).In base → base.Ns mainGlobals mg → FnG l.prog w (K w.params) mg base CX0 k fa fd [x] (sp w))
    (hsp : ∀ (w : World) (H : Hp) (a : Addr) (ns : List Int), ns.length ≤ n → Only H → SqL (K w.params) H a (ns.map V.int) → sp w [.ref a] H (fun v _ => v = .bl true) fun _ _ _ => False) :
    PySem.W.WalkO q loose XP YP l.row.toRowW d [] (fun f vs => PySem.call f vs) := by
  refine Att.attach_call hn hdf fun w s₀ s₁ mg mb fa o pm cd doc a vs ns G Y ho hd hcd hmg hobj hints hlen hgen => ?_
  have kin := hY w _ Y
  obtain ⟨fd, bnd, FF⟩ := F w mg fa _ kin G.T.g hmg
  have ha : s₁.heap.get? a = some (scriptObj vs) := hobj
  have short : ns.length ≤ sizeLine := Nat.le_trans hlen hn2
  have keep0 : ∀ {b : Addr} {o : Obj}, s₁.heap.get? b = some o → scriptHp (K w.params) a vs ns b = none → (hidT s₁.heap (scriptHp (K w.params) a vs ns)).get? b = some o := fun e z => hidT_get e z
  have nsK : ∀ {b : Addr} {m : Str → Option Value}, s₁.heap.Ns b m → (hidT s₁.heap (scriptHp (K w.params) a vs ns)).Ns b m := by
    rintro b m ⟨o, es, ep, e, dd, r⟩
    exact ⟨o, es, ep, keep0 e (scriptHp_none ha e fun its n z => by rw [dd] at z; cases z), dd, r⟩
  have kinB : (K w.params).In (hidT s₁.heap (scriptHp (K w.params) a vs ns)) := fun b o e => keep0 (kin b o e) (by
    cases z : scriptHp (K w.params) a vs ns b with
    | none => rfl
    | some u =>
      obtain ⟨rfl, z2, _⟩ := scriptHp_some z
      rw [z2] at e
      cases e)
  have hM : Mod (K w.params) mg (hidT s₁.heap (scriptHp (K w.params) a vs ns)) := by
    obtain ⟨mc, h1, h2⟩ := G.T.nolimit
    exact ⟨kinB, nsK G.T.g, ⟨mb, nsK G.T.b, G.T.builtins⟩, ⟨mc, nsK h1, h2⟩⟩
  have hok : HOk l.prog w (scriptHp (K w.params) a vs ns) s₁.heap := fun b u z => by
    obtain ⟨rfl, _, rfl⟩ := scriptHp_some z
    exact ⟨ha, by rw [List.length_map]; exact short, vs, _, vals_ints hints, ha⟩
  have hS : SqL (K w.params) (scriptHp (K w.params) a vs ns) a (ns.map V.int) := by
    cases hk : (K w.params).lookup a with
    | none => exact .inl (.inr ⟨scriptObj vs, if_pos ⟨rfl, hk⟩⟩)
    | some o =>
      have e := kin a o hk
      rw [ha] at e
      obtain rfl := Option.some.inj e
      exact .inr ⟨_, vs.toArray, _, hk, rfl, rfl, rfl, by rw [List.size_toArray, hints.length]; exact short, by simpa using vals_ints hints⟩
  have e0 : Env0 l.prog w (K w.params) mg (hidT s₁.heap (scriptHp (K w.params) a vs ns)) callerA [] s₁ (scriptHp (K w.params) a vs ns) :=
    ⟨rfl, hM, fun b o e => of_hidT e, Nat.le_of_eq (hidT_size _ _), trivial, fun b z => absurd (show b ∈ ([] : List Addr) from z) (by simp), hok, .of_eq hgen⟩
  refine codeAny_mono ((FF _ kinB (nsK G.T.g)).run callerA rfl [] s₁ _ ⟨[.ref a], []⟩ [.ref a] [.ref a] _ _ room e0 (bnd s₁ (.ref a)) (.cons rfl .nil) (hsp w _ a ns hlen scriptHp_only hS)) fun r s' got => ?_
  cases r with
  | error e => exact got.elim
  | ok fl =>
    cases fl with
    | next => exact got.elim
    | brk => exact got.elim
    | cont => exact got.elim
    | ret u =>
      obtain ⟨v, H', os, bare, un, hok', rv, z⟩ := got
      obtain rfl : v = .bl true := z
      obtain rfl : u = Value.bool true := rv
      refine ⟨rfl, OldK.of_keep fun b o e => ?_, os, bare⟩
      cases z : scriptHp (K w.params) a vs ns b with
      | none => exact un.keep b o e z (fun y => absurd (show b ∈ ([] : List Addr) from y) (by simp)) (by simp)
      | some u =>
        obtain ⟨_, _, rfl⟩ := scriptHp_some z
        have z2 := un.frzs b _ _ z
        obtain ⟨e1, _⟩ := hok b _ z
        obtain ⟨e2, _⟩ := hok' b _ z2
        rw [e] at e1
        obtain rfl := Option.some.inj e1
        exact e2
end
/-! ### repr of data -/
theorem Dp_ref {K : PySem.W.Frag} {H : Hp} {v : V} {d : PyData} (h : Dp K H v d) : (∃ a, v = .ref a) ∨ (v = .non ∧ d = .none) ∨ (∃ b, v = .bl b ∧ d = .bool b) ∨ (∃ i, v = .int i ∧ d = .int i) ∨ ∃ x, v = .str x ∧ d = .str x := by
  cases h with
  | non => exact .inr (.inl ⟨rfl, rfl⟩)
  | bl b => exact .inr (.inr (.inl ⟨b, rfl, rfl⟩))
  | int i => exact .inr (.inr (.inr (.inl ⟨i, rfl, rfl⟩)))
  | str x => exact .inr (.inr (.inr (.inr ⟨x, rfl, rfl⟩)))
  | lst _ _ => exact .inl ⟨_, rfl⟩
  | tup _ _ => exact .inl ⟨_, rfl⟩
/-- data that can be shown: not deeper than dp, not heavier than wt -/
structure Sh (dp wt : Nat) (d : PyData) : Prop where
  can : d.canLay0 = true
  dep : d.depth ≤ dp
  shw : d.showable = true
  lvs : d.leavesShort 200 = true
  wgt : d.weight ≤ wt
structure ShAll (dp wt : Nat) (ds : List PyData) : Prop where
  can : PyData.canLayAll0 ds = true
  dep : PyData.depthAll ds ≤ dp
  shw : PyData.showableAll ds = true
  lvs : PyData.leavesShortAll 200 ds = true
  wgt : PyData.weightAll ds ≤ wt
theorem Sh.mono {dp wt dp' wt' : Nat} {d : PyData} (h : Sh dp wt d) (h1 : dp ≤ dp') (h2 : wt ≤ wt') : Sh dp' wt' d := ⟨h.can, Nat.le_trans h.dep h1, h.shw, h.lvs, Nat.le_trans h.wgt h2⟩
theorem ShAll.mono {dp wt dp' wt' : Nat} {ds : List PyData} (h : ShAll dp wt ds) (h1 : dp ≤ dp') (h2 : wt ≤ wt') : ShAll dp' wt' ds := ⟨h.can, Nat.le_trans h.dep h1, h.shw, h.lvs, Nat.le_trans h.wgt h2⟩
theorem Sh.none : Sh 0 0 .none := ⟨rfl, Nat.le_refl _, rfl, rfl, Nat.le_refl _⟩
theorem Sh.bool (b : Bool) : Sh 0 0 (.bool b) := ⟨rfl, Nat.le_refl _, rfl, rfl, Nat.le_refl _⟩
theorem Sh.int {b : Nat} (h0 : 0 < b) (h6 : b ≤ 600) {i : Int} (h : i.natAbs < 2 ^ b) : Sh 0 b (.int i) := by
  have l2 := PySem.Flt.log2_lt_of h0 h
  refine ⟨rfl, Nat.le_refl _, decide_eq_true (by omega), decide_eq_true ?_, ?_⟩
  · have h1 : i.natAbs < 10 ^ 199 := Nat.lt_of_lt_of_le h (Nat.le_trans (Nat.pow_le_pow_right (by decide) h6) (by decide +kernel))
    have e := int_text_length_le10 (k := 199) (by decide) h1
    show (Str.ofString (toString i)).length ≤ 200
    rw [PySem.ofString_length]
    exact e
  · show (if i == 0 then 0 else i.natAbs.log2 + 1) ≤ b
    split <;> omega
theorem Sh.tup {dp wt : Nat} {ds : List PyData} (h : ShAll dp wt ds) : Sh (dp + 1) wt (.tuple ds) := ⟨h.can, Nat.add_le_add_right h.dep 1, h.shw, h.lvs, h.wgt⟩
theorem Sh.lst {dp wt : Nat} {ds : List PyData} (h : ShAll dp wt ds) : Sh (dp + 1) wt (.list ds) := ⟨h.can, Nat.add_le_add_right h.dep 1, h.shw, h.lvs, h.wgt⟩
theorem ShAll.nil : ShAll 0 0 [] := ⟨rfl, Nat.le_refl _, rfl, rfl, Nat.le_refl _⟩
theorem ShAll.cons {dp wt wt' : Nat} {d : PyData} {ds : List PyData} (h : Sh dp wt d) (t : ShAll dp wt' ds) : ShAll dp (wt + 1 + wt') (d :: ds) := by
  refine ⟨?_, Nat.max_le.mpr ⟨h.dep, t.dep⟩, ?_, ?_, ?_⟩
  · show (d.canLay0 && PyData.canLayAll0 ds) = true
    rw [h.can, t.can]
    rfl
  · show (d.showable && PyData.showableAll ds) = true
    rw [h.shw, t.shw]
    rfl
  · show (d.leavesShort 200 && PyData.leavesShortAll 200 ds) = true
    rw [h.lvs, t.lvs]
    rfl
  · show d.weight + 1 + PyData.weightAll ds ≤ wt + 1 + wt'
    have h1 := h.wgt
    have h2 := t.wgt
    omega
theorem ShAll.ints {b : Nat} (h0 : 0 < b) (h6 : b ≤ 600) : ∀ {ns : List Int}, (∀ x ∈ ns, x.natAbs < 2 ^ b) → ShAll 0 ((b + 1) * ns.length) (ns.map PyData.int)
  | [], _ => ShAll.nil
  | x :: r, h => by
    have h1 := ShAll.cons (Sh.int h0 h6 (h x List.mem_cons_self)) (ShAll.ints h0 h6 fun y hy => h y (List.mem_cons_of_mem _ hy))
    exact h1.mono (Nat.le_refl _) (by rw [List.length_cons, Nat.mul_succ]; omega)
theorem Sh.shaped {dp wt : Nat} {d : PyData} (h : Sh dp wt d) (h1 : dp ≤ 64) : SeqAt.shaped d = true := by
  unfold SeqAt.shaped
  rw [h.can]
  exact decide_eq_true (Nat.le_trans h.dep h1)
theorem Sh.fits {dp wt : Nat} {d : PyData} (h : Sh dp wt d) (h1 : wt ≤ 80000) : d.shown.length ≤ sizeLine := by
  have h2 := PyData.shown_le 200 (by decide) d h.lvs
  have h3 := h.wgt
  have h4 : (200 + 2) * d.weight ≤ 202 * 80000 := Nat.mul_le_mul (by omega) (by omega)
  have h5 : sizeLine = 16777216 := by decide
  omega
theorem dp_ints {K : PySem.W.Frag} {H : Hp} : ∀ ns : List Int, DpAll K H (ns.map V.int) (ns.map PyData.int)
  | [] => .nil
  | n :: r => .cons (.int n) (dp_ints r)
theorem eqvAll_ints : ∀ ns : List Int, PyData.eqvAll (ns.map PyData.int) (ns.map PyData.int) = true
  | [] => rfl
  | n :: r => by
    show (PyData.eqv (.int n) (.int n) && PyData.eqvAll (r.map PyData.int) (r.map PyData.int)) = true
    rw [eqvAll_ints r]
    show ((n == n) && true) = true
    rw [beq_self_eq_true]
    rfl
section
variable {X : Cx}
/-- repr(x), x data: its text -/
theorem call_reprD (gd : X.A.guards = some []) (hu : X.A.units + 66 < cLine) : CallR X (.builtin "repr") (fun xs H Q => ∃ v d, xs = [v] ∧ Dp X.K H v d ∧ Sh 60 80000 d ∧ Q (.str d.shown) H) := by
  intro pins s σ H xs us Q I r h
  obtain ⟨v, d, rfl, hD, hd, q⟩ := h
  have hsh := hd.shaped (by decide)
  have hsz := hd.fits (by decide)
  obtain ⟨u, rfl, ru⟩ := vals1 r
  rcases Dp_ref hD with ⟨a, rfl⟩ | ⟨rfl, rfl⟩ | ⟨b, rfl, rfl⟩ | ⟨i, rfl, rfl⟩ | ⟨x, rfl, rfl⟩
  · obtain rfl : u = Value.ref a := ru
    obtain ⟨as, rd⟩ := Dp.reads I d _ _ hD rfl
    have hdp := hd.dep
    refine repr_of_reads' rd hd.shw (PyData.noDict_hsm (PyData.hasDict_of_canLay d hd.can)) gd (by omega) (fun _ _ e => e) (fun h' u tk hk => ?_) hsz
    exact ⟨.str _, H, I.kept hk, ⟨u, rfl⟩, q⟩
  · obtain rfl : u = Value.none := ru
    exact P.repr_of_none ⟨.str _, H, I.tok _, ⟨_, rfl⟩, q⟩
  · obtain rfl : u = Value.bool b := ru
    exact P.repr_of_bool ⟨.str _, H, I.tok _, ⟨_, rfl⟩, q⟩
  · obtain ⟨t, rfl⟩ := ru
    exact P.repr_of_int (of_decide_eq_true hd.shw) ⟨.str _, H, I.tok _, ⟨_, rfl⟩, q⟩
  · obtain ⟨t, rfl⟩ := ru
    exact P.repr_of_str ⟨.str _, H, I.tok _, ⟨_, rfl⟩, q⟩ hsz
/-- a ** b of greater numbers -/
theorem op_powB : OpR X (binaryOp .Pow) (rI (fun i j => 0 ≤ j ∧ (Builtin.Int.intBits i : Int) * j ≤ 2 ^ 27) fun i j => .int (i ^ j.toNat)) := opI fun _ _ _ _ _ _ _ hc q => pow_int hc.1 hc.2 q
/-- set(t), t a tuple of ints -/
theorem cr_setT (hc : X.calm = true) : CallR X (.type "set") (fun xs H Q => ∃ (l : Addr) (ns : List Int), xs = [.ref l] ∧ SqT X.K H l (ns.map V.int) ∧ ns.length ≤ 1000 ∧
    ∀ (p : Addr) (c : Nat), H p = none → Q (.ref p) (upd H p (SetO X.w p (fun j => decide (j ∈ ns)) c))) := by
  intro pins s σ H xs us Q I r h
  obtain ⟨l, ns, rfl, hq, hl, q⟩ := h
  obtain ⟨u, rfl, ru⟩ := vals1 r
  obtain rfl : u = Value.ref l := ru
  obtain ⟨its, rv, pt, hz⟩ := I.tuple hq
  refine call_set_tupI ns (I.ok.hd hc) (show s.heap.IsTuple l its.toArray from pt) (ints_of_vals rv) (by unfold scanBound; omega) fun h' tk c R1 hcn k => ?_
  exact ⟨.ref _, _, I.laid (t' := tk) k (Nat.le_refl _) (setO_new R1), rfl, q _ c (I.hok.fresh (Nat.le_refl _))⟩
end

/-! ### the same rules with the written part as a letter (for comprehensions) -/
section
variable {X : Cx} (K : PySem.W.Frag)
theorem ix_listK (h : X.K = K := by rfl) : IxR X (rIxL K) := h ▸ ix_list
theorem ix_tupK (h : X.K = K := by rfl) : IxR X (rIxT K) := h ▸ ix_tup
theorem op_inK (h : X.K = K := by rfl) : OpR X (compareOp .In) (rIn K false) := h ▸ op_in_seq
theorem op_notInK (h : X.K = K := by rfl) : OpR X (compareOp .NotIn) (rIn K true) := h ▸ op_notIn_seq
def rLenK (K : PySem.W.Frag) : List V → Hp → VK → Prop := fun xs H Q => ∃ p ys, xs = [.ref p] ∧ (SqL K H p ys ∨ SqT K H p ys) ∧ Q (.int ys.length) H
theorem call_lenK (h : X.K = K := by rfl) : CallR X (.builtin "len") (rLenK K) := h ▸ call_len_seq
def rReprK (K : PySem.W.Frag) : List V → Hp → VK → Prop := fun xs H Q => ∃ v d, xs = [v] ∧ Dp K H v d ∧ Sh 60 80000 d ∧ Q (.str d.shown) H
theorem call_reprK (gd : X.A.guards = some []) (hu : X.A.units + 66 < cLine) (h : X.K = K := by rfl) : CallR X (.builtin "repr") (rReprK K) := h ▸ call_reprD gd hu
theorem call_isiK1 (h : X.K = K := by rfl) : CallR X (.builtin "isinstance") (rIsi K) := h ▸ call_isi
def rTupleK (K : PySem.W.Frag) : List V → Hp → VK → Prop := fun xs H Q => ∃ p ys, xs = [.ref p] ∧ ((SqL K H p ys ∧ ∀ l, H l = none → Q (.ref l) (upd H l (.tup ys))) ∨ (SqT K H p ys ∧ Q (.ref p) H))
theorem call_tupleK (h : X.K = K := by rfl) : CallR X (.type "tuple") (rTupleK K) := h ▸ call_tuple_of
def rListK (K : PySem.W.Frag) : List V → Hp → VK → Prop := fun xs H Q => ∃ p ys, xs = [.ref p] ∧ (SqL K H p ys ∨ SqT K H p ys) ∧ ∀ l, H l = none → Q (.ref l) (upd H l (.lst ys))
theorem call_listK (h : X.K = K := by rfl) : CallR X (.type "list") (rListK K) := h ▸ call_list_of
theorem op_eqDK (hu : X.A.units + 64 < cLine) (h : X.K = K := by rfl) : OpR X (compareOp .Eq) (rEqD K) := h ▸ op_eqD hu
theorem op_neDK (hu : X.A.units + 64 < cLine) (h : X.K = K := by rfl) : OpR X (compareOp .NotEq) (rNeD K) := h ▸ op_neD hu
end
end Ef
namespace Ef
open PySem PySem.Spec PyProof.Rows L2
def topS (i : Nat) : Stmt := PySem.Challenge.pw_evenfailover_k02_least_numbers_of_lists.main.body.getD i (.Pass ⟨0, 0, 0, 0⟩)
abbrev sBin : Stmt := topS 1
abbrev NBin : List Str := ["n", "k", "result", "step"]
theorem scBin : FnScope ["n", "k", "result", "step"] ["n", "k"] (defScope sBin) := ⟨rfl, rfl, rfl, by decide +kernel, rfl, by decide +kernel, by decide +kernel⟩
abbrev sEdge : Stmt := topS 2
abbrev NEdge : List Str := ["n", "size"]
theorem scEdge : FnScope ["n", "size"] ["n", "size"] (defScope sEdge) := ⟨rfl, rfl, rfl, by decide +kernel, rfl, by decide +kernel, by decide +kernel⟩
abbrev sGcd : Stmt := topS 3
abbrev NGcd : List Str := ["a", "b"]
theorem scGcd : FnScope ["a", "b"] ["a", "b"] (defScope sGcd) := ⟨rfl, rfl, rfl, by decide +kernel, rfl, by decide +kernel, by decide +kernel⟩
abbrev sLcm : Stmt := topS 4
abbrev NLcm : List Str := ["a", "b", "divisor"]
theorem scLcm : FnScope ["a", "b", "divisor"] ["a", "b"] (defScope sLcm) := ⟨rfl, rfl, rfl, by decide +kernel, rfl, by decide +kernel, by decide +kernel⟩
abbrev sLL : Stmt := topS 5
abbrev NLL : List Str := ["n", "depth", "least", "size"]
theorem scLL : FnScope ["n", "depth", "least", "size"] ["n", "depth"] (defScope sLL) := ⟨rfl, rfl, rfl, by decide +kernel, rfl, by decide +kernel, by decide +kernel⟩
abbrev sRows : Stmt := topS 7
abbrev NRows : List Str := ["_law_rows_here", "_law_last", "_law_at"]
theorem scRows : FnScope ["_law_rows_here", "_law_last", "_law_at"] [] (defScope sRows) := ⟨rfl, rfl, rfl, by decide +kernel, rfl, by decide +kernel, by decide +kernel⟩
abbrev sCommon : Stmt := topS 8
abbrev NCommon : List Str := ["_law_one", "_law_other"]
theorem scCommon : FnScope ["_law_one", "_law_other"] ["_law_one", "_law_other"] (defScope sCommon) := ⟨rfl, rfl, rfl, by decide +kernel, rfl, by decide +kernel, by decide +kernel⟩
abbrev sIsLst : Stmt := topS 9
abbrev NIsLst : List Str := ["_law_number", "_law_divisors", "_law_left", "_law_prime", "_law_divisor"]
theorem scIsLst : FnScope ["_law_number", "_law_divisors", "_law_left", "_law_prime", "_law_divisor"] ["_law_number", "_law_divisors"] (defScope sIsLst) := ⟨rfl, rfl, rfl, by decide +kernel, rfl, by decide +kernel, by decide +kernel⟩
abbrev sLaw : Stmt := topS 10
abbrev NLaw : List Str := ["_law_script", "_law_rows_here", "_law_start", "_law_wide", "_law_divisors", "_law_due", "_law_tall", "_law_found", "_law_level"]
theorem scLaw : FnScope ["_law_script", "_law_rows_here", "_law_start", "_law_wide", "_law_divisors", "_law_due", "_law_tall", "_law_found", "_law_level"] ["_law_script"] (defScope sLaw) := ⟨rfl, rfl, rfl, by decide +kernel, rfl, by decide +kernel, by decide +kernel⟩
/-- what stands behind the top: each def, how it binds, and that the built-ins' names are free -/
structure Txt (K : PySem.W.Frag) (mg : Str → Option Value) where
  fBin : Addr
  fdBin : FuncData
  FBin : Fun K "binomial" "binomial" sBin fBin fdBin
  bBin : Binds K fdBin ["n", "k"] []
  gBin : mg "binomial" = some (.ref fBin)
  fEdge : Addr
  fdEdge : FuncData
  FEdge : Fun K "edge_divisor" "edge_divisor" sEdge fEdge fdEdge
  bEdge : Binds K fdEdge ["n", "size"] []
  gEdge : mg "edge_divisor" = some (.ref fEdge)
  fGcd : Addr
  fdGcd : FuncData
  FGcd : Fun K "greatest_divisor" "greatest_divisor" sGcd fGcd fdGcd
  bGcd : Binds K fdGcd ["a", "b"] []
  gGcd : mg "greatest_divisor" = some (.ref fGcd)
  fLcm : Addr
  fdLcm : FuncData
  FLcm : Fun K "least_multiple" "least_multiple" sLcm fLcm fdLcm
  bLcm : Binds K fdLcm ["a", "b"] []
  gLcm : mg "least_multiple" = some (.ref fLcm)
  fLL : Addr
  fdLL : FuncData
  FLL : Fun K "least_lists" "least_lists" sLL fLL fdLL
  bLL : Binds K fdLL ["n", "depth"] []
  gLL : mg "least_lists" = some (.ref fLL)
  fRows : Addr
  fdRows : FuncData
  FRows : Fun K "_law_rows" "_law_rows" sRows fRows fdRows
  bRows : Binds K fdRows [] []
  gRows : mg "_law_rows" = some (.ref fRows)
  fCommon : Addr
  fdCommon : FuncData
  FCommon : Fun K "_law_common" "_law_common" sCommon fCommon fdCommon
  bCommon : Binds K fdCommon ["_law_one", "_law_other"] []
  gCommon : mg "_law_common" = some (.ref fCommon)
  fIsLst : Addr
  fdIsLst : FuncData
  FIsLst : Fun K "_law_is_least" "_law_is_least" sIsLst fIsLst fdIsLst
  bIsLst : Binds K fdIsLst ["_law_number", "_law_divisors"] []
  gIsLst : mg "_law_is_least" = some (.ref fIsLst)
  kLL_depth_n : KBinds K fdLL ["n", "depth"] ["depth", "n"] (permL [1, 0] 2) (permL [1, 0] 2)
  kEdge_size_n : KBinds K fdEdge ["n", "size"] ["size", "n"] (permL [1, 0] 2) (permL [1, 0] 2)
  n_len : mg "len" = none
  n_range : mg "range" = none
  n_min : mg "min" = none
  n_any : mg "any" = none
  n_list : mg "list" = none
/-! ### binomial -/
def spBin : Sp := fun vs H Q _ => ∃ n k : Int, vs = [.int n, .int k] ∧ n ≤ 60 ∧ Q (.int (binZ n k)) H
section
variable {P : Program} {w : World} {K : PySem.W.Frag} {mg : Str → Option Value} {base : Heap}
theorem ok_bin (T : Txt K mg) {j : Nat} : FnOk P w K mg base CX0 (j + 1) T.fBin T.fdBin ["n", "k"] spBin := by
  refine T.FBin.ok scBin (fun vs H Q E h => ?_) (fun cdv A outer s H vs Q E hr h => ?_)
  · obtain ⟨n, k, rfl, _⟩ := h
    rfl
  · obtain ⟨n, k, rfl, hn, q⟩ := h
    refine ⟨_, pss_cons (ps_if (PW.pt (pw_or (pt_cmpR op_lt (pv 1) pe_int (nomark _)) (pw_or1 (pt_cmpR op_gt (pv 1) (pv 0) (nomark _))))) (pss_one (ps_ret pe_int)) pss_nil)
      (pss_cons (ps_set (i := 2) scBin.nd rfl (.inl rfl) pe_int)
      (pss_cons (ps_for PassesOwn.never rfl (pi_range2 (by rfl) T.n_range (pa_cons pe_int (pa_cons (pe_op op_add (pe_callB (call_min2 rfl) (by rfl) T.n_min (by decide +kernel) (pa_cons (pv 1) (pa_cons (pe_op op_sub (pv 0) (pv 1)) pa_nil))) pe_int) pa_nil)))
          (pg_name (i := 3) scBin.nd rfl (.inl rfl))
          (pss_one (ps_set (i := 2) scBin.nd rfl (.inl rfl) (pe_op op_fdiv (pe_op op_mul (pv 2) (pe_op op_sub (pe_op op_add (pv 0) pe_int) (pv 3))) (pv 3)))))
      (pss_one (ps_ret (pv 2))))), ?_⟩
    refine ⟨_, rfl, _, _, rfl, rfl, _, rfl, ite2 (fun h1 => ?_) (fun h1 => ?_)⟩
    · have e : binZ n k = 0 := if_pos (.inl (of_decide_eq_true h1))
      rw [e] at q
      exact iteT q
    · refine ⟨_, rfl, _, rfl, _, _, rfl, rfl, _, rfl, ite2 (fun h2 => ?_) (fun h2 => ?_)⟩
      · have e : binZ n k = 0 := if_pos (.inr (of_decide_eq_true h2))
        rw [e] at q
        exact q
      · have k0 : 0 ≤ k := by
          have := of_decide_eq_false (Bool.eq_false_iff.mpr h1)
          omega
        have kn : k ≤ n := by
          have := of_decide_eq_false (Bool.eq_false_iff.mpr h2)
          omega
        obtain ⟨a, rfl⟩ := Int.eq_ofNat_of_zero_le k0
        obtain ⟨b, rfl⟩ := Int.eq_ofNat_of_zero_le (Int.le_trans k0 kn)
        have hab : a ≤ b := by omega
        have hb : b ≤ 60 := by omega
        have em : (if (b : Int) - (a : Int) < (a : Int) then (b : Int) - (a : Int) else (a : Int)) = ((min a (b - a) : Nat) : Int) := by
          by_cases c : b - a < a
          · rw [if_pos (by omega), Nat.min_eq_right (by omega)]
            omega
          · rw [if_neg (by omega), Nat.min_eq_left (by omega)]
        refine ⟨_, rfl, _, rfl, _, rfl, _, _, rfl, rfl, _, _, rfl, _, _, rfl, rfl, ?_⟩
        rw [em]
        refine ⟨_, _, rfl, ⟨by decide, by decide, by omega, by omega⟩, ?_⟩
        refine for_range (lo := 1) (n := (((min a (b - a) : Nat) : Int) + 1 - 1).toNat) (fun i σ H2 => ∃ v, σ = [some (.int b), some (.int a), some (.int (C b i)), v] ∧ H2 = H) ?_ ?_ ?_
        · exact ⟨none, by rw [C_zero]; rfl, rfl⟩
        · rintro i σ H2 hi ⟨v, rfl, rfl⟩
          have hib : i < b := by omega
          have c60 := C_60 b i hb
          refine ⟨_, rfl, _, rfl, _, _, rfl, rfl, _, rfl, _, _, rfl, rfl, _, _, rfl, rfl, .inl ⟨by omega, by omega⟩, _, rfl, _, _, rfl, rfl, ⟨by omega, by omega⟩, ?_⟩
          refine ⟨some (.int (1 + (i : Int))), ?_, rfl⟩
          show [some (V.int (b : Int)), some (V.int (a : Int)), some (V.int (((C b i : Int) * ((b : Int) + 1 - (1 + (i : Int)))) / (1 + (i : Int)))), some (V.int (1 + (i : Int)))] = _
          rw [C_div b i hib]
        · rintro σ H2 ⟨v, rfl, rfl⟩
          refine ⟨_, rfl, ?_⟩
          have e1 : (((min a (b - a) : Nat) : Int) + 1 - 1).toNat = min a (b - a) := by omega
          have e2 : binZ (b : Int) (a : Int) = ((C b (((min a (b - a) : Nat) : Int) + 1 - 1).toNat : Nat) : Int) := by
            rw [e1, C_min b a hab]
            exact binZ_nat b a
          rw [e2] at q
          exact q
end
/-! ### edge_divisor, greatest_divisor, least_multiple, least_lists -/
def spEdge : Sp := fun vs H Q _ => ∃ n d : Nat, vs = [.int n, .int d] ∧ n ≤ 60 ∧ 1 ≤ n ∧ Q (.int ((n * C (n - 1) d : Nat) : Int)) H
def spGcd : Sp := fun vs H Q _ => ∃ a b : Nat, vs = [.int a, .int b] ∧ Q (.int (Nat.gcd a b : Nat)) H
def spLcm : Sp := fun vs H Q _ => ∃ a b : Nat, vs = [.int a, .int b] ∧ 0 < b ∧ b < 18446744073709551616 ∧ Q (.int (stepL a b : Nat)) H
def spLL : Sp := fun vs H Q _ => ∃ n d : Nat, vs = [.int n, .int d] ∧ n ≤ 60 ∧ 1 ≤ n ∧ d ≤ n ∧ Q (.int (leastL n d : Nat)) H
def WGcd (a b : Nat) (H : Hp) (m : Nat) (σ : L2.St) (H' : Hp) : Prop := ∃ x y : Nat, σ = [some (.int x), some (.int y)] ∧ H' = H ∧ Nat.gcd x y = Nat.gcd a b ∧ m = y
theorem gcd_turn (x y : Nat) : Nat.gcd y (x % y) = Nat.gcd x y := by
  rw [Nat.gcd_comm x y, Nat.gcd_rec y x, Nat.gcd_comm]
section
variable {P : Program} {w : World} {K : PySem.W.Frag} {mg : Str → Option Value} {base : Heap}
theorem ok_edge (T : Txt K mg) {j : Nat} : FnOk P w K mg base CX0 (j + 2) T.fEdge T.fdEdge ["n", "size"] spEdge := by
  refine T.FEdge.ok scEdge (fun vs H Q E h => ?_) (fun cdv A outer s H vs Q E hr h => ?_)
  · obtain ⟨n, d, rfl, _⟩ := h
    rfl
  · obtain ⟨n, d, rfl, hn, h1, q⟩ := h
    refine ⟨_, pss_one (ps_ret (pe_op op_mul (pv 0) (pe_call (ok_bin T) hr (by rfl) T.gBin T.FBin.kp T.bBin .nil pass0 (pa_cons (pe_op op_sub (pv 0) pe_int) (pa_cons (pv 1) pa_nil))))), ?_⟩
    have e : binZ ((n : Int) - 1) (d : Int) = (C (n - 1) d : Int) := by
      rw [show (n : Int) - 1 = ((n - 1 : Nat) : Int) by omega]
      exact binZ_nat (n - 1) d
    refine ⟨_, rfl, _, rfl, _, _, rfl, rfl, _, rfl, _, _, rfl, by omega, _, _, rfl, rfl, .inl ⟨by omega, by omega⟩, ?_⟩
    rw [e]
    rw [Int.natCast_mul] at q
    exact q
theorem ok_gcd (T : Txt K mg) {j : Nat} : FnOk P w K mg base CX0 (j + 1) T.fGcd T.fdGcd ["a", "b"] spGcd := by
  refine T.FGcd.ok scGcd (fun vs H Q E h => ?_) (fun cdv A outer s H vs Q E hr h => ?_)
  · obtain ⟨a, b, rfl, _⟩ := h
    rfl
  · obtain ⟨a, b, rfl, q⟩ := h
    refine ⟨_, pss_cons (ps_while PassesOwn.never (pt_cmpR op_gt (pv 1) pe_int (nomark _)) (pss_one (ps_par (i := 0) (j := 1) rfl scGcd.nd rfl rfl (by decide) rfl rfl (pa_cons (pv 1) (pa_cons (pe_op op_mod (pv 0) (pv 1)) pa_nil)) (by rfl))))
      (pss_one (ps_ret (pv 0))), ?_⟩
    refine ⟨WGcd a b H, ⟨b, a, b, rfl, rfl, rfl, rfl⟩, ?_⟩
    rintro m σ H' ⟨x, y, rfl, rfl, hg, rfl⟩
    refine ⟨_, rfl, _, _, rfl, rfl, _, rfl, ite2 (fun h1 => ?_) (fun h1 => ?_)⟩
    · have h0 : (0 : Int) < (m : Int) := of_decide_eq_true h1
      refine ⟨WGcd a b H' (x % m), fun σ' H'' hw => ⟨x % m, Nat.mod_lt _ (by omega), hw⟩, ?_⟩
      refine ⟨_, rfl, _, rfl, _, rfl, _, _, rfl, rfl, h0, _, _, rfl, m, x % m, ?_, rfl, by rw [gcd_turn]; exact hg, rfl⟩
      rw [Int.natCast_emod]
      rfl
    · have h0 : m = 0 := by
        have h2 : ¬ (0 : Int) < (m : Int) := fun z => h1 (decide_eq_true z)
        omega
      subst h0
      rw [Nat.gcd_zero_right] at hg
      rw [← hg] at q
      exact ⟨_, rfl, q⟩
theorem ok_lcm (T : Txt K mg) {j : Nat} : FnOk P w K mg base CX0 (j + 2) T.fLcm T.fdLcm ["a", "b"] spLcm := by
  refine T.FLcm.ok scLcm (fun vs H Q E h => ?_) (fun cdv A outer s H vs Q E hr h => ?_)
  · obtain ⟨a, b, rfl, _⟩ := h
    rfl
  · obtain ⟨a, b, rfl, hb, hb2, q⟩ := h
    refine ⟨_, pss_cons (ps_set (i := 2) scLcm.nd rfl (.inl rfl) (pe_call (ok_gcd T) hr (by rfl) T.gGcd T.FGcd.kp T.bGcd .nil pass0 (pa_cons (pv 0) (pa_cons (pv 1) pa_nil))))
      (pss_cons (ps_if (pt_cmpR op_eq (pv 2) pe_int (nomark _)) (pss_one (ps_ret pe_int)) pss_nil)
      (pss_one (ps_ret (pe_op op_mul (pe_op op_fdivW (pv 0) (pv 2)) (pv 1))))), ?_⟩
    have g0 : 0 < Nat.gcd a b := Nat.gcd_pos_of_pos_right a hb
    have g1 : Nat.gcd a b ≤ b := Nat.gcd_le_right a hb
    refine ⟨_, rfl, _, rfl, a, b, rfl, ?_⟩
    refine ⟨_, rfl, rfl, _, rfl, ite2 (fun h1 => ?_) (fun h1 => ?_)⟩
    · have h2 := V.int.inj (of_decide_eq_true h1)
      omega
    · refine ⟨_, rfl, _, rfl, _, _, rfl, rfl, wide_div (b := 64) (by omega) (by omega) (by decide) (by decide), _, rfl, _, _, rfl, rfl, .inr ⟨by omega, by omega⟩, ?_⟩
      unfold stepL at q
      rw [Int.natCast_mul, Int.natCast_ediv] at q
      exact q
theorem ok_ll (T : Txt K mg) {j : Nat} : FnOk P w K mg base CX0 (j + 3) T.fLL T.fdLL ["n", "depth"] spLL := by
  refine T.FLL.ok scLL (fun vs H Q E h => ?_) (fun cdv A outer s H vs Q E hr h => ?_)
  · obtain ⟨n, d, rfl, _⟩ := h
    rfl
  · obtain ⟨n, d, rfl, hn, h1, hd, q⟩ := h
    refine ⟨_, pss_cons (ps_set (i := 2) scLL.nd rfl (.inl rfl) pe_int)
      (pss_cons (ps_for PassesOwn.never rfl (pi_range1 (by rfl) T.n_range (pa_cons (pv 1) pa_nil)) (pg_name (i := 3) scLL.nd rfl (.inl rfl))
        (pss_one (ps_set (i := 2) scLL.nd rfl (.inl rfl) (pe_call (ok_lcm T) hr (by rfl) T.gLcm T.FLcm.kp T.bLcm .nil pass0 (pa_cons (pv 2) (pa_cons (pe_call (ok_edge T) hr (by rfl) T.gEdge T.FEdge.kp T.bEdge .nil pass0 (pa_cons (pv 0) (pa_cons (pv 3) pa_nil))) pa_nil))))))
      (pss_one (ps_ret (pv 2)))), ?_⟩
    refine ⟨_, rfl, (d : Int), rfl, by omega, by omega, ?_⟩
    refine for_range (lo := 0) (n := (d : Int).toNat) (fun i σ H2 => ∃ v, σ = [some (.int n), some (.int d), some (.int (leastL n i : Nat)), v] ∧ H2 = H) ⟨none, rfl, rfl⟩ ?_ ?_
    · rintro i σ H2 hi ⟨v, rfl, rfl⟩
      have hid : i < n := by omega
      rw [Int.zero_add]
      exact ⟨_, rfl, _, rfl, _, rfl, n, i, rfl, hn, h1, _, _, rfl, edge_pos hid, edge_lt hn, _, rfl, rfl⟩
    · rintro σ H2 ⟨v, rfl, rfl⟩
      rw [Int.toNat_natCast]
      exact ⟨_, rfl, q⟩
end
/-! ### the law's rows: Pascal's triangle as lists -/
def rowV (i : Nat) : List V := (List.range 61).map fun j => V.int (C i j)
theorem rowV_at (i : Nat) {j : Nat} (h : j < 61) : (rowV i)[j]? = some (V.int (C i j)) := by
  unfold rowV
  rw [List.getElem?_map, List.getElem?_range h]
  rfl
theorem rowV_zero : rowV 0 = [V.int 1] ++ (List.replicate (60 : Int).toNat [V.int 0]).flatten := by decide +kernel
theorem rowV_succ (i : Nat) : rowV (i + 1) = [V.int 1] ++ (List.range 60).map fun j => V.int (C (i + 1) (j + 1)) := by
  unfold rowV
  rw [List.range_succ_eq_map, List.map_cons, List.map_map, C_zero]
  rfl
theorem rowV_ne (i : Nat) (rs : List Addr) (h : rowV i = rs.map V.ref) : False := by
  have h1 := rowV_at i (show 0 < 61 by decide)
  rw [h, List.getElem?_map] at h1
  cases e : rs[0]? with
  | none =>
    rw [e] at h1
    cases h1
  | some r =>
    rw [e] at h1
    cases h1
structure RowsAt (H : Hp) (p : Addr) (rs : List Addr) : Prop where
  at_p : H p = some (.lst (rs.map V.ref))
  row : ∀ i r, rs[i]? = some r → H r = some (.lst (rowV i))
def spRows : Sp := fun vs H Q _ => vs = [] ∧ ∀ H' p rs, Same H H' → H p = none → rs.length = 61 → RowsAt H' p rs → Q (.ref p) H'
theorem map_last {rs : List Addr} {k : Nat} (h : rs.length = k + 1) : ∃ r, rs[k]? = some r ∧ atI (rs.map V.ref) (-1) = some (.ref r) := by
  have h1 : rs ≠ [] := fun z => by
    rw [z] at h
    cases h
  refine ⟨rs.getLast h1, ?_, ?_⟩
  · have e : rs.length - 1 = k := by omega
    rw [List.getLast_eq_getElem h1, ← List.getElem?_eq_getElem]
    rw [e]
  · have hz : rs.map V.ref = rs.dropLast.map V.ref ++ [V.ref (rs.getLast h1)] := by
      rw [← List.map_singleton, ← List.map_append, List.dropLast_concat_getLast]
    rw [hz]
    exact atI_last _ _
def WRows (H : Hp) (p : Addr) (m : Nat) (σ : L2.St) (H' : Hp) : Prop := ∃ rs v, σ = [some (.ref p), v, none] ∧ Same H H' ∧ m + rs.length = 61 ∧ 1 ≤ rs.length ∧ RowsAt H' p rs
section
variable {P : Program} {w : World} {K : PySem.W.Frag} {mg : Str → Option Value} {base : Heap}
theorem ok_rows (T : Txt K mg) {j : Nat} : FnOk P w K mg base CX0 (j + 1) T.fRows T.fdRows [] spRows := by
  refine T.FRows.ok scRows (fun vs H Q E h => ?_) (fun cdv A outer s H vs Q E hr h => ?_)
  · obtain ⟨rfl, _⟩ := h
    rfl
  · obtain ⟨rfl, q⟩ := h
    refine ⟨_, pss_cons (ps_set (i := 0) scRows.nd rfl (.inl rfl) (pe_lst (pa_cons (pe_op op_cat (pe_lst (pa_cons pe_int pa_nil)) (pe_op op_rep (pe_lst (pa_cons pe_int pa_nil)) pe_int)) pa_nil)))
      (pss_cons (ps_while PassesOwn.never (pt_cmpR op_lt (pe_callB call_len_seq (by rfl) T.n_len PySem.boot_len (pa_cons (pv 0) pa_nil)) pe_int (nomark _))
        (pss_cons (ps_set (i := 1) scRows.nd rfl (.inr rfl) (pe_ix ix_list (pv 0) (pe_un un_neg pe_int) (fun _ _ => rfl)))
        (pss_one (ps_expr (pe_bm PySem.F.plainAttrs_list PySem.F.slot_list_append PySem.F.type_list_append mt_append (pv 0) (pa_cons (pe_op op_cat (pe_lst (pa_cons pe_int pa_nil))
          (pe_lc (own := [("_law_at", 2)]) (g := gName 2) (tt := tYes) rfl scRows.nd (pi_range2 (by rfl) T.n_range (pa_cons pe_int (pa_cons pe_int pa_nil)))
            (blkOk_by (own := [("_law_at", 2)]) (N := ["_law_rows_here", "_law_last", "_law_at"]) (sc := defScope sRows) (by decide +kernel))
            (fun _ _ _ _ _ => pg_name (i := 2) scRows.nd rfl (Or.inl rfl)) (fun _ _ _ _ _ => pts_nil)
            (fun _ _ _ _ _ => pe_op op_add (pe_ix (r := rIxL K) ix_list (pv 1) (pv 2) (fun _ _ => rfl)) (pe_ix (r := rIxL K) ix_list (pv 1) (pe_op op_sub (pv 2) pe_int) (fun _ _ => rfl))))) pa_nil))))))
      (pss_one (ps_ret (pv 0)))), ?_⟩
    -- the first row
    refine ⟨by decide, fun p1 n1 => ⟨by decide, fun p2 n2 => ⟨p2, 60, _, rfl, rfl, upd_same, by decide, by decide, by decide, fun p3 n3 => ⟨p1, p3, [V.int 1], _, rfl, rfl, ?_, upd_same, by decide, fun p4 n4 => ⟨(by show 1 ≤ sizeLine; decide), fun p5 n5 => ?_⟩⟩⟩⟩⟩
    · rw [upd_ne (ne_of_none (by rw [upd_ne (ne_of_none upd_same n2)]; exact upd_same) n3), upd_ne (ne_of_none upd_same n2)]
      exact upd_same
    · have s1 := same_new (o := .lst [V.int 1]) n1
      have s2 := s1.trans (same_new (o := .lst [V.int 0]) n2)
      have s3 := s2.trans (same_new (o := .lst (List.replicate (60 : Int).toNat [V.int 0]).flatten) n3)
      have s4 := s3.trans (same_new (o := .lst ([V.int 1] ++ (List.replicate (60 : Int).toNat [V.int 0]).flatten)) n4)
      have f5 := s4.free n5
      refine ⟨WRows H p5, ⟨60, [p4], none, rfl, s4.trans (same_new n5), rfl, Nat.le_refl _, upd_same, ?_⟩, fun m σ H6 hW => ?_⟩
      · intro i r e
        cases i with
        | succ i => cases e
        | zero =>
          obtain rfl : p4 = r := Option.some.inj e
          rw [upd_ne (ne_of_none upd_same n5), rowV_zero]
          exact upd_same
      · obtain ⟨rs, v, rfl, s6, hm, h1, R⟩ := hW
        refine ⟨_, rfl, p5, _, rfl, .inl (SqL.of R.at_p), _, _, rfl, rfl, _, rfl, ite2 (fun hb => ?_) (fun hb => ?_)⟩
        · have hlt : rs.length < 61 := by
            have := of_decide_eq_true hb
            rw [List.length_map] at this
            omega
          refine ⟨WRows H p5 (m - 1), fun σ' H' h => ⟨m - 1, by omega, h⟩, ?_⟩
          obtain ⟨k, hk⟩ : ∃ k, rs.length = k + 1 := ⟨rs.length - 1, by omega⟩
          obtain ⟨r, er, el⟩ := map_last hk
          have hrow := R.row k r er
          -- last = rows[-1]
          refine ⟨.ref p5, rfl, 1, rfl, p5, _, -1, _, rfl, rfl, SqL.of R.at_p, el, ?_⟩
          -- rows.append([1] + [..])
          refine ⟨.ref p5, rfl, .inl ⟨rfl, _, SqL.of R.at_p⟩, by decide, fun q1 m1 => ?_⟩
          have t1 := same_new (o := .lst [V.int 1]) m1
          refine ⟨1, 61, rfl, ⟨by decide, by decide, by decide, by decide⟩, fun D nD => ?_⟩
          refine lc_range (lo := 1) (n := 60) (fun i H7 => Same (upd H6 q1 (.lst [V.int 1])) H7 ∧ H7 D = some (.lst ((List.range i).map fun j => V.int (C (k + 1) (j + 1))))) ⟨same_new nD, upd_same⟩ ?_ ?_
          · rintro i H7 hi ⟨s7, hD⟩
            have hr7 := s7 _ _ (t1 _ _ hrow)
            have e1 : (1 + (i : Int)) = ((i + 1 : Nat) : Int) := by omega
            have a1 : atI (rowV k) (1 + (i : Int)) = some (V.int (C k (i + 1))) := by
              rw [e1]
              exact atI_nat (rowV_at k (by omega))
            have a2 : atI (rowV k) (1 + (i : Int) - 1) = some (V.int (C k i)) := by
              rw [show (1 + (i : Int) - 1) = (i : Int) by omega]
              exact atI_nat (rowV_at k (by omega))
            refine ⟨rfl, .ref r, rfl, _, rfl, r, _, _, _, rfl, rfl, SqL.of hr7, a1, .ref r, rfl, _, rfl, _, _, rfl, rfl, r, _, _, _, rfl, rfl, SqL.of hr7, a2, _, _, rfl, rfl, _, hD, ?_, keep_upd s7 nD, ?_⟩
            · rw [List.length_map, List.length_range]
              exact small1000 (by omega)
            · rw [upd_same, List.range_succ, List.map_append]
              show some (HO.lst (_ ++ [V.int ((C k (i + 1) : Int) + (C k i : Int))])) = some (HO.lst (_ ++ [V.int ((C k i + C k (i + 1) : Nat) : Int)]))
              rw [Int.natCast_add, Int.add_comm]
          · rintro H7 ⟨s7, hD⟩
            refine ⟨q1, D, _, _, rfl, rfl, s7 _ _ upd_same, hD, by rw [List.length_map, List.length_range]; decide, fun p7 n7 => ?_⟩
            have t7 := t1.trans (s7.trans (same_new (o := .lst ([V.int 1] ++ (List.range 60).map fun j => V.int (C (k + 1) (j + 1)))) n7))
            refine ⟨p5, _, _, rfl, rfl, t7 _ _ R.at_p, ?_, ?_⟩
            · rw [List.length_map]
              exact small1000 (by omega)
            · have n75 : p7 ≠ p5 := fun z => by
                rw [z, s7 _ _ (t1 _ _ R.at_p)] at n7
                cases n7
              refine ⟨rs ++ [p7], some (.ref r), rfl, keep_upd (s6.trans t7) f5, by rw [List.length_append]; show m - 1 + (rs.length + 1) = 61; omega, by rw [List.length_append]; omega, ?_, ?_⟩
              · rw [upd_same, List.map_append]
                rfl
              · intro i x e
                by_cases hi : i < rs.length
                · rw [List.getElem?_append_left hi] at e
                  have hx := R.row i x e
                  have nx : x ≠ p5 := fun z => by
                    have h9 := R.at_p
                    rw [← z, hx] at h9
                    injection h9 with h9
                    injection h9 with h9
                    exact rowV_ne i rs h9
                  rw [upd_ne nx]
                  exact t7 _ _ hx
                · have ei : i = rs.length := by
                    have := (List.getElem?_eq_some_iff.mp e).1
                    rw [List.length_append] at this
                    have h2 : i < rs.length + 1 := this
                    omega
                  subst ei
                  rw [List.getElem?_concat_length] at e
                  obtain rfl := Option.some.inj e
                  rw [upd_ne n75, hk, rowV_succ]
                  exact upd_same
        · have hge : rs.length = 61 := by
            have h9 : ¬ ((rs.map V.ref).length : Int) < 61 := fun z => hb (decide_eq_true z)
            rw [List.length_map] at h9
            omega
          exact ⟨_, rfl, q _ _ rs s6 f5 hge R⟩
end
/-! ### the law's common divisor -/
def spCommon : Sp := fun vs H Q _ => ∃ a b : Nat, vs = [.int a, .int b] ∧ Q (.int (Nat.gcd a b : Nat)) H
def WCommon (a b : Nat) (H : Hp) (m : Nat) (σ : L2.St) (H' : Hp) : Prop := ∃ x y : Nat, σ = [some (.int x), some (.int y)] ∧ H' = H ∧ Nat.gcd x y = Nat.gcd a b ∧ m = y
theorem common_turn (x y : Nat) : Nat.gcd y (x % y) = Nat.gcd x y := by
  rw [Nat.gcd_comm x y, Nat.gcd_rec y x, Nat.gcd_comm]
section
variable {P : Program} {w : World} {K : PySem.W.Frag} {mg : Str → Option Value} {base : Heap}
theorem ok_common (T : Txt K mg) {j : Nat} : FnOk P w K mg base CX0 (j + 1) T.fCommon T.fdCommon ["_law_one", "_law_other"] spCommon := by
  refine T.FCommon.ok scCommon (fun vs H Q E h => ?_) (fun cdv A outer s H vs Q E hr h => ?_)
  · obtain ⟨a, b, rfl, _⟩ := h
    rfl
  · obtain ⟨a, b, rfl, q⟩ := h
    refine ⟨_, pss_cons (ps_while PassesOwn.never (pt_cmpR op_gt (pv 1) pe_int (nomark _)) (pss_one (ps_par (i := 0) (j := 1) rfl scCommon.nd rfl rfl (by decide) rfl rfl (pa_cons (pv 1) (pa_cons (pe_op op_mod (pv 0) (pv 1)) pa_nil)) (by rfl))))
      (pss_one (ps_ret (pv 0))), ?_⟩
    refine ⟨WCommon a b H, ⟨b, a, b, rfl, rfl, rfl, rfl⟩, ?_⟩
    rintro m σ H' ⟨x, y, rfl, rfl, hg, rfl⟩
    refine ⟨_, rfl, _, _, rfl, rfl, _, rfl, ite2 (fun h1 => ?_) (fun h1 => ?_)⟩
    · have h0 : (0 : Int) < (m : Int) := of_decide_eq_true h1
      refine ⟨WCommon a b H' (x % m), fun σ' H'' hw => ⟨x % m, Nat.mod_lt _ (by omega), hw⟩, ?_⟩
      refine ⟨_, rfl, _, rfl, _, rfl, _, _, rfl, rfl, h0, _, _, rfl, m, x % m, ?_, rfl, by rw [common_turn]; exact hg, rfl⟩
      rw [Int.natCast_emod]
      rfl
    · have h0 : m = 0 := by
        have h2 : ¬ (0 : Int) < (m : Int) := fun z => h1 (decide_eq_true z)
        omega
      subst h0
      rw [Nat.gcd_zero_right] at hg
      rw [← hg] at q
      exact ⟨_, rfl, q⟩
end
/-! ### the law's look at a least common multiple -/
def natV (ds : List Nat) : List V := ds.map fun (x : Nat) => V.int (x : Int)
theorem natV_len (ds : List Nat) : (natV ds).length = ds.length := List.length_map _
theorem natV_at {ds : List Nat} {i : Nat} {y : V} (h : (natV ds)[i]? = some y) : ∃ x, ds[i]? = some x ∧ y = V.int (x : Int) := by
  unfold natV at h
  rw [List.getElem?_map] at h
  cases e : ds[i]? with
  | none =>
    rw [e] at h
    cases h
  | some x =>
    rw [e] at h
    exact ⟨x, rfl, (Option.some.inj h).symm⟩
/-- which of ds do not divide M -/
def notDiv (M : Nat) (ds : List Nat) : List Bool := ds.map fun x => !decide (M % x = 0)
theorem notDiv_none {M : Nat} {ds : List Nat} (h : ∀ x ∈ ds, M % x = 0) : (notDiv M ds).any id = false := by
  unfold notDiv
  rw [List.any_map]
  cases e : List.any ds (id ∘ fun x => !decide (M % x = 0)) with
  | false => rfl
  | true =>
    obtain ⟨x, hx, h1⟩ := List.any_eq_true.mp e
    have h2 : (!decide (M % x = 0)) = true := h1
    rw [decide_eq_true (h x hx)] at h2
    cases h2
theorem notDiv_some {M : Nat} {ds : List Nat} (h : ∃ x ∈ ds, M % x ≠ 0) : (notDiv M ds).any id = true := by
  unfold notDiv
  rw [List.any_map]
  obtain ⟨x, hx, h1⟩ := h
  refine List.any_eq_true.mpr ⟨x, hx, ?_⟩
  show (!decide (M % x = 0)) = true
  rw [decide_eq_false h1]
  rfl
theorem notDiv_snoc {M : Nat} {ds : List Nat} {i x : Nat} (h : ds[i]? = some x) : (notDiv M (ds.take (i + 1))).map V.bl = (notDiv M (ds.take i)).map V.bl ++ [V.bl (!decide (V.int ((M : Int) % (x : Int)) = V.int 0))] := by
  have e1 : (M : Int) % (x : Int) = ((M % x : Nat) : Int) := (Int.natCast_emod _ _).symm
  have e2 : decide (V.int ((M : Int) % (x : Int)) = V.int 0) = decide (M % x = 0) := by
    rw [e1]
    by_cases c : M % x = 0
    · rw [decide_eq_true c, c]
      rfl
    · rw [decide_eq_false c, decide_eq_false fun z => c (by have := V.int.inj z; omega)]
  rw [e2, List.take_add_one, h]
  unfold notDiv
  rw [List.map_append, List.map_append]
  rfl
def spIsLst (K : PySem.W.Frag) : Sp := fun vs H Q _ => ∃ (N : Nat) (l : Addr) (ds : List Nat), vs = [.int N, .ref l] ∧ SqL K H l (natV ds) ∧ ds.length ≤ 1000 ∧ (∀ x ∈ ds, 0 < x) ∧ 0 < N ∧ N < 2 ^ 100 ∧ IsLst N ds ∧ ∀ H', Same H H' → Q (.bl true) H'
def WStrip (p N : Nat) (l : Addr) (t D0 : Nat) (H : Hp) (m : Nat) (σ : L2.St) (H' : Hp) : Prop := ∃ y : Nat, σ = [some (.int N), some (.ref l), some (.int y), some (.int p), none] ∧ H' = H ∧ 0 < y ∧ y < 2 ^ m ∧ stripF m p y = D0 ∧ m ≤ t
theorem fold_take {α β : Type} (f : β → α → β) (b : β) (xs : List α) {i : Nat} {x : α} (h : xs[i]? = some x) : (xs.take (i + 1)).foldl f b = f ((xs.take i).foldl f b) x := by
  rw [List.take_add_one, h, List.foldl_append]
  rfl
theorem stripF_more (p : Nat) (hp : 2 ≤ p) : ∀ (f g l : Nat), 0 < l → l < 2 ^ f → f ≤ g → stripF g p l = stripF f p l
  | 0, g, l, h0, h1, _ => by
    have h2 : l < 1 := h1
    omega
  | f + 1, 0, l, h0, h1, h2 => by omega
  | f + 1, g + 1, l, h0, h1, h2 => by
    show (if l % p = 0 then stripF g p (l / p) else l) = (if l % p = 0 then stripF f p (l / p) else l)
    by_cases c : l % p = 0
    · rw [if_pos c, if_pos c]
      have hd : p * (l / p) = l := by
        have h9 := Nat.div_add_mod l p
        omega
      have q0 : 0 < l / p := by
        rcases Nat.eq_zero_or_pos (l / p) with z | z
        · rw [z] at hd
          omega
        · exact z
      have q1 : l / p < 2 ^ f := by
        have h9 : 2 * (l / p) ≤ p * (l / p) := Nat.mul_le_mul_right _ hp
        rw [Nat.pow_succ] at h1
        omega
      exact stripF_more p hp f g (l / p) q0 q1 (by omega)
    · rw [if_neg c, if_neg c]
theorem primes_ok : ∀ p ∈ primes59, 2 ≤ p ∧ p < 60 := by decide
theorem primesV : natV primes59 = [V.int 2, V.int 3, V.int 5, V.int 7, V.int 11, V.int 13, V.int 17, V.int 19, V.int 23, V.int 29, V.int 31, V.int 37, V.int 41, V.int 43, V.int 47, V.int 53, V.int 59] := rfl
def leftAt (N i : Nat) : Nat := (primes59.take i).foldl (fun l p => stripF 100 p l) N
theorem leftAt_pos {N : Nat} (h0 : 0 < N) (h1 : N < 2 ^ 100) : ∀ {i : Nat}, i ≤ 17 → 0 < leftAt N i ∧ leftAt N i < 2 ^ 100
  | 0, _ => ⟨h0, h1⟩
  | i + 1, hi => by
    have hlt : i < primes59.length := by
      show i < 17
      omega
    obtain ⟨a, b⟩ := leftAt_pos h0 h1 (i := i) (by omega)
    have e : leftAt N (i + 1) = stripF 100 primes59[i] (leftAt N i) := fold_take _ _ _ (List.getElem?_eq_getElem hlt)
    obtain ⟨_, c, d⟩ := strip_pos primes59[i] (primes_ok _ (List.getElem_mem hlt)).1 100 (leftAt N i) a b
    rw [e]
    exact ⟨c, Nat.lt_of_le_of_lt d b⟩
section
variable {P : Program} {w : World} {K : PySem.W.Frag} {mg : Str → Option Value} {base : Heap}
theorem ok_islst (T : Txt K mg) {j : Nat} : FnOk P w K mg base CX0 (j + 1) T.fIsLst T.fdIsLst ["_law_number", "_law_divisors"] (spIsLst K) := by
  refine T.FIsLst.ok scIsLst (fun vs H Q E h => ?_) (fun cdv A outer s H vs Q E hr h => ?_)
  · obtain ⟨N, l, ds, rfl, _⟩ := h
    rfl
  · obtain ⟨N, l, ds, rfl, hS, hlen, hpos, N0, N1, hL, q⟩ := h
    refine ⟨_, pss_cons (ps_if (pt_val (pe_callB (cr_any rfl) (by rfl) T.n_any (by decide +kernel) (pa_cons (pe_lc (own := [("_law_divisor", 4)]) (g := gName 4) (tt := tYes) rfl scIsLst.nd (pi_list (pv 1)) (blkOk_by (own := [("_law_divisor", 4)]) (N := NIsLst) (sc := defScope sIsLst) (by decide +kernel)) (fun _ _ _ _ _ => (pg_name (i := 4) scIsLst.nd rfl (.inl rfl))) (fun _ _ _ _ _ => pts_nil) (fun _ _ _ _ _ => (pe_cmpR op_ne (pe_op op_mod (pv 0) (pv 4)) pe_int (nomark _)))) pa_nil))) (pss_one (ps_ret pe_bl)) pss_nil) (pss_cons (ps_set (i := 2) scIsLst.nd rfl (.inl rfl) (pv 0)) (pss_cons (ps_for PassesOwn.never rfl (pi_tup (pe_tup (pa_cons pe_int (pa_cons pe_int (pa_cons pe_int (pa_cons pe_int (pa_cons pe_int (pa_cons pe_int (pa_cons pe_int (pa_cons pe_int (pa_cons pe_int (pa_cons pe_int (pa_cons pe_int (pa_cons pe_int (pa_cons pe_int (pa_cons pe_int (pa_cons pe_int (pa_cons pe_int (pa_cons pe_int pa_nil))))))))))))))))))) (pg_name (i := 3) scIsLst.nd rfl (.inr rfl)) (C8.pss_cut (ps_if (pt_cmpR op_eq (pe_op op_mod (pv 0) (pv 3)) pe_int (nomark _)) (pss_one (ps_if (pt_not (pt_val (pe_callB (cr_any rfl) (by rfl) T.n_any (by decide +kernel) (pa_cons (pe_lc (own := [("_law_divisor", 4)]) (g := gName 4) (tt := tYes) rfl scIsLst.nd (pi_list (pv 1)) (blkOk_by (own := [("_law_divisor", 4)]) (N := NIsLst) (sc := defScope sIsLst) (by decide +kernel)) (fun _ _ _ _ _ => (pg_name (i := 4) scIsLst.nd rfl (.inl rfl))) (fun _ _ _ _ _ => pts_nil) (fun _ _ _ _ _ => (pe_cmpR op_ne (pe_op op_mod (pe_op op_fdiv (pv 0) (pv 3)) (pv 4)) pe_int (nomark _)))) pa_nil)))) (pss_one (ps_ret pe_bl)) pss_nil)) pss_nil) (pss_one (ps_while PassesOwn.never (pt_cmpR op_eq (pe_op op_mod (pv 2) (pv 3)) pe_int (nomark _)) (pss_one (ps_set (i := 2) scIsLst.nd rfl (.inl rfl) (pe_op op_fdiv (pv 2) (pv 3)))))))) (pss_one (ps_ret (pe_cmpR op_eq (pv 2) pe_int (nomark _)))))), ?_⟩
    -- any([number % divisor != 0 ..])
    refine ⟨.ref l, rfl, l, rfl, ⟨_, hS⟩, fun D nD => ?_⟩
    refine lc_list (K := K) (a := l) (xs := natV ds) (fun i H2 => Same H H2 ∧ H2 D = some (.lst ((notDiv N (ds.take i)).map V.bl))) ⟨same_new nD, upd_same⟩ (fun i H2 _ z => z.1.seq hS) ?_ ?_
    · rintro i y H2 hy ⟨s2, hD⟩
      obtain ⟨x, hx, rfl⟩ := natV_at hy
      have hx0 : 0 < x := hpos x (List.mem_of_getElem? hx)
      have hi : i < ds.length := (List.getElem?_eq_some_iff.mp hx).1
      refine ⟨rfl, _, rfl, _, rfl, _, _, rfl, rfl, (show (0 : Int) < (x : Int) by omega), rfl, _, hD, ?_, keep_upd s2 nD, ?_⟩
      · unfold notDiv
        rw [List.length_map, List.length_map, List.length_take]
        exact small1000 (by omega)
      · rw [upd_same, notDiv_snoc hx]
    · rintro H2 ⟨s2, hD⟩
      rw [natV_len, List.take_of_length_le (Nat.le_refl _)] at hD
      refine ⟨D, _, rfl, SqL.of hD, ?_⟩
      rw [notDiv_none hL.all]
      refine ⟨false, rfl, iteF ?_⟩
      -- left = number; the primes
      refine ⟨_, rfl, ?_⟩
      refine ⟨by show 17 ≤ sizeLine; decide, fun t nt => ?_⟩
      have s3 := s2.trans (same_new (o := .tup (natV primes59)) nt)
      refine ⟨t, rfl, ⟨_, SqT.of upd_same⟩, for_tup (K := K) (a := t) (xs := natV primes59) (fun i σ H4 => ∃ v, σ = [some (.int N), some (.ref l), some (.int (leftAt N i : Nat)), v, none] ∧ Same H H4 ∧ H4 t = some (.tup (natV primes59))) ⟨none, rfl, s3, upd_same⟩ (fun i σ H4 _ ⟨_, _, _, z⟩ => SqT.of z) ?_ ?_⟩
      · rintro i y σ H4 hy ⟨v, rfl, s4, ht⟩
        obtain ⟨p, hp, rfl⟩ := natV_at hy
        have hpm := List.mem_of_getElem? hp
        obtain ⟨p2, p60⟩ := primes_ok p hpm
        have hi : i < 17 := (List.getElem?_eq_some_iff.mp hp).1
        obtain ⟨l0, l1⟩ := leftAt_pos N0 N1 (i := i) (by omega)
        have el : leftAt N (i + 1) = stripF 100 p (leftAt N i) := fold_take _ _ _ hp
        -- if number % prime == 0
        refine ⟨fun σ' H5 => σ' = [some (.int N), some (.ref l), some (.int (leftAt N i : Nat)), some (.int p), none] ∧ Same H H5 ∧ H5 t = some (.tup (natV primes59)), ?_, ?_⟩
        · refine ⟨_, rfl, _, rfl, _, _, rfl, rfl, (show (0 : Int) < (p : Int) by omega), rfl, _, rfl, ite2 (fun h1 => ?_) (fun h1 => ?_)⟩
          · have hN : N % p = 0 := by
              have h2 : (N : Int) % (p : Int) = 0 := V.int.inj (of_decide_eq_true h1)
              rw [← Int.natCast_emod] at h2
              omega
            have eM : (N : Int) / (p : Int) = ((N / p : Nat) : Int) := (Int.natCast_ediv _ _).symm
            refine ⟨.ref l, rfl, l, rfl, ⟨_, s4.seq hS⟩, fun D2 nD2 => ?_⟩
            refine lc_list (K := K) (a := l) (xs := natV ds) (fun i H2 => Same H4 H2 ∧ H2 D2 = some (.lst ((notDiv (N / p) (ds.take i)).map V.bl))) ⟨same_new nD2, upd_same⟩ (fun i H2 _ z => z.1.seq (s4.seq hS)) ?_ ?_
            · rintro k y H5 hy ⟨s5, hD2⟩
              obtain ⟨x, hx, rfl⟩ := natV_at hy
              have hx0 : 0 < x := hpos x (List.mem_of_getElem? hx)
              have hk : k < ds.length := (List.getElem?_eq_some_iff.mp hx).1
              refine ⟨rfl, _, rfl, _, rfl, _, _, rfl, rfl, ⟨by omega, by omega⟩, _, rfl, _, _, rfl, rfl, (show (0 : Int) < (x : Int) by omega), rfl, _, hD2, ?_, keep_upd s5 nD2, ?_⟩
              · unfold notDiv
                rw [List.length_map, List.length_map, List.length_take]
                exact small1000 (by omega)
              · rw [upd_same, notDiv_snoc hx, eM]
            · rintro H5 ⟨s5, hD2⟩
              rw [natV_len, List.take_of_length_le (Nat.le_refl _)] at hD2
              refine ⟨D2, _, rfl, SqL.of hD2, ?_⟩
              rw [notDiv_some (hL.some p hpm hN)]
              exact ⟨true, rfl, iteF ⟨rfl, s4.trans s5, s5 _ _ ht⟩⟩
          · exact ⟨rfl, s4, ht⟩
        · rintro σ' H5 ⟨rfl, s5, ht5⟩
          refine ⟨WStrip p N l 100 (leftAt N (i + 1)) H5, ⟨100, leftAt N i, rfl, rfl, l0, l1, el.symm, Nat.le_refl _⟩, ?_⟩
          rintro m σ H6 ⟨y, rfl, rfl, y0, y1, ey, hm⟩
          refine ⟨_, rfl, _, rfl, _, _, rfl, rfl, (show (0 : Int) < (p : Int) by omega), rfl, _, rfl, ite2 (fun h1 => ?_) (fun h1 => ?_)⟩
          · have hy : y % p = 0 := by
              have h2 : (y : Int) % (p : Int) = 0 := V.int.inj (of_decide_eq_true h1)
              rw [← Int.natCast_emod] at h2
              omega
            cases m with
            | zero =>
              have h2 : y < 1 := y1
              omega
            | succ m =>
              refine ⟨WStrip p N l 100 (leftAt N (i + 1)) H6 m, fun σ' H' hw => ⟨m, by omega, hw⟩, ?_⟩
              have hd : p * (y / p) = y := by
                have h9 := Nat.div_add_mod y p
                omega
              have q0 : 0 < y / p := by
                rcases Nat.eq_zero_or_pos (y / p) with z | z
                · rw [z] at hd
                  omega
                · exact z
              have q1 : y / p < 2 ^ m := by
                have h9 : 2 * (y / p) ≤ p * (y / p) := Nat.mul_le_mul_right _ p2
                rw [Nat.pow_succ] at y1
                omega
              have e2 : stripF (m + 1) p y = stripF m p (y / p) := if_pos hy
              refine ⟨_, rfl, _, rfl, _, _, rfl, rfl, ⟨by omega, by omega⟩, y / p, ?_, rfl, q0, q1, by rw [← e2]; exact ey, by omega⟩
              rw [Int.natCast_ediv]
              rfl
          · have hy : ¬ y % p = 0 := fun z => h1 (decide_eq_true (congrArg V.int (by rw [← Int.natCast_emod, z]; rfl)))
            have e2 : stripF m p y = y := by
              cases m with
              | zero => rfl
              | succ m => exact if_neg hy
            rw [e2] at ey
            subst ey
            exact ⟨_, rfl, s5, ht5⟩
      · rintro σ H4 ⟨v, rfl, s4, ht⟩
        have e1 : leftAt N 17 = 1 := hL.strip
        refine ⟨_, rfl, rfl, ?_⟩
        rw [show (natV primes59).length = 17 from rfl, e1]
        exact q _ s4
end
/-! ### the law -/
def spLaw (K : PySem.W.Frag) : Sp := fun vs H Q _ => ∃ (a : Addr) (ns : List Int), vs = [.ref a] ∧ SqL K H a (ns.map V.int) ∧ ns.length ≤ 63 ∧ ∀ H', Q (.bl true) H'
theorem RowsAt.same {H H' : Hp} {p : Addr} {rs : List Addr} (R : RowsAt H p rs) (s : Same H H') : RowsAt H' p rs := ⟨s _ _ R.at_p, fun i r e => s _ _ (R.row i r e)⟩
theorem RowsAt.at {K : PySem.W.Frag} {H : Hp} {p : Addr} {rs : List Addr} (R : RowsAt H p rs) (hl : rs.length = 61) {i : Nat} (hi : i < 61) : ∃ r, atI (rs.map V.ref) (i : Int) = some (.ref r) ∧ SqL K H r (rowV i) := by
  have h : i < rs.length := by omega
  refine ⟨rs[i], atI_nat (by rw [List.getElem?_map, List.getElem?_eq_getElem h]; rfl), SqL.of (R.row i _ (List.getElem?_eq_getElem h))⟩
theorem natV_eq (ds : List Nat) : natV ds = (ds.map fun (x : Nat) => (x : Int)).map V.int := by
  unfold natV
  rw [List.map_map]
  rfl
theorem dp_nats {K : PySem.W.Frag} {H : Hp} (ds : List Nat) : DpAll K H (natV ds) ((ds.map fun (x : Nat) => (x : Int)).map PyData.int) := by
  rw [natV_eq]
  exact dp_ints _
theorem eqvL_ints (ns : List Int) : PyData.eqv (.list (ns.map PyData.int)) (.list (ns.map PyData.int)) = true := by
  rw [PyData.eqv]
  exact eqvAll_ints ns
theorem shp_ints : ∀ ns : List Int, PyData.canLayAll0 (ns.map PyData.int) = true ∧ PyData.depthAll (ns.map PyData.int) ≤ 1
  | [] => ⟨rfl, Nat.zero_le _⟩
  | n :: r => by
    obtain ⟨h1, h2⟩ := shp_ints r
    refine ⟨?_, Nat.max_le.mpr ⟨Nat.zero_le _, h2⟩⟩
    show (true && PyData.canLayAll0 (r.map PyData.int)) = true
    rw [h1]
    rfl
theorem shp_listI (ns : List Int) : SeqAt.shaped (.list (ns.map PyData.int)) = true := by
  obtain ⟨h1, h2⟩ := shp_ints ns
  unfold SeqAt.shaped
  rw [show PyData.canLay0 (.list (ns.map PyData.int)) = PyData.canLayAll0 (ns.map PyData.int) from rfl, h1]
  refine decide_eq_true ?_
  show PyData.depthAll (ns.map PyData.int) + 1 ≤ 64
  omega
theorem cut_take (xs : List V) (j : Nat) : cutV xs none (some (j : Int)) = xs.take j := by
  unfold cutV
  rw [HT.sIx_none, show HT.sIx xs.length xs.length (some (j : Int)) = min j xs.length from HT.sIx_nat xs.length xs.length j]
  show ((xs.drop 0).take (min j xs.length - 0)) = xs.take j
  rw [List.drop_zero, Nat.sub_zero, ← List.take_eq_take_min]
theorem rg_nat (n : Nat) : rgV 1 (((n : Nat) : Int) + 1) = natV (List.range' 1 n) := by
  unfold rgV natV
  rw [List.range'_eq_map_range, List.map_map, show (((n : Nat) : Int) + 1 - 1).toNat = n by omega]
  refine List.map_congr_left fun i _ => ?_
  show V.int (1 + (i : Int)) = V.int ((1 + i : Nat) : Int)
  rw [Int.natCast_add]
  rfl
theorem divN_at {n l : Nat} (h : l < n) : (natV (divN n))[l]? = some (V.int ((n * C (n - 1) l : Nat) : Int)) := by
  unfold natV divN
  rw [List.map_map, List.getElem?_map, List.getElem?_range h]
  rfl
theorem divN_len (n : Nat) : (divN n).length = n := by
  unfold divN
  rw [List.length_map, List.length_range]
theorem divN_pos {n : Nat} : ∀ x ∈ divN n, 0 < x := by
  intro x hx
  unfold divN at hx
  obtain ⟨l, hl, rfl⟩ := List.mem_map.mp hx
  exact edge_pos (List.mem_range.mp hl)
theorem natV_take (ds : List Nat) (k : Nat) : (natV ds).take k = natV (ds.take k) := by
  unfold natV
  rw [List.map_take]
section
variable {P : Program} {w : World} {K : PySem.W.Frag} {mg : Str → Option Value} {base : Heap}
theorem ok_law {f : Addr} {fd : FuncData} (F : Fun K "law" "law" sLaw f fd) (T : Txt K mg) : FnOk P w K mg base CX0 4 f fd ["_law_script"] (spLaw K) := by
  refine F.ok scLaw (fun vs H Q E h => ?_) (fun cdv A outer s H vs Q E hr h => ?_)
  · obtain ⟨a, ns, rfl, _⟩ := h
    rfl
  · obtain ⟨a, ns, rfl, hS, hlen, q⟩ := h
    refine ⟨_, C8.pss_cut (ps_asg (pe_tup (pa_cons (pe_call0 (ok_rows T) hr (by rfl) T.gRows T.FRows.kp T.bRows .nil pass0) (pa_cons (pe_ifExp (pt_cmpR (op_neD hr.units) (pv 0) (pe_lst pa_nil) (nomark _)) (pe_op op_mod (pe_ix (ix_listK K) (pv 0) pe_int (fun _ _ => rfl)) pe_int) pe_int) pa_nil))) (pg_tup rfl (pgs_cons (pg_name (i := 1) scLaw.nd rfl (.inr rfl)) (pgs_cons (pg_name (i := 2) scLaw.nd rfl (.inl rfl)) pgs_nil)))) (pss_cons (ps_for PassesOwn.never rfl (pi_range2 (by rfl) T.n_range (pa_cons pe_int (pa_cons pe_int pa_nil))) (pg_name (i := 3) scLaw.nd rfl (.inr rfl)) (pss_cons (ps_par (i := 4) (j := 5) rfl scLaw.nd rfl rfl (by decide) rfl rfl (pa_cons (pe_lc (own := [("_law_level", 8)]) (g := gName 8) (tt := tYes) rfl scLaw.nd (pi_range1 (by rfl) T.n_range (pa_cons (pv 3) pa_nil)) (blkOk_by (own := [("_law_level", 8)]) (N := NLaw) (sc := defScope sLaw) (by decide +kernel)) (fun _ _ _ _ _ => (pg_name (i := 8) scLaw.nd rfl (.inl rfl))) (fun _ _ _ _ _ => pts_nil) (fun _ _ _ _ _ => (pe_op op_mul (pv 3) (pe_ix (ix_listK K) (pe_ix (ix_listK K) (pv 1) (pe_op op_sub (pv 3) pe_int) (fun _ _ => rfl)) (pv 8) (fun _ _ => rfl))))) (pa_cons pe_int pa_nil)) (by rfl)) (pss_cons (ps_if (pt_cmpR (op_neD hr.units) (pe_lc (own := [("_law_level", 8)]) (g := gName 8) (tt := tYes) rfl scLaw.nd (pi_range1 (by rfl) T.n_range (pa_cons (pv 3) pa_nil)) (blkOk_by (own := [("_law_level", 8)]) (N := NLaw) (sc := defScope sLaw) (by decide +kernel)) (fun _ _ _ _ _ => (pg_name (i := 8) scLaw.nd rfl (.inl rfl))) (fun _ _ _ _ _ => pts_nil) (fun _ _ _ _ _ => (pe_call (ok_edge T) hr (by rfl) T.gEdge T.FEdge.kp T.bEdge .nil pass0 (pa_cons (pv 3) (pa_cons (pv 8) pa_nil))))) (pv 4) (nomark _)) (pss_one (ps_ret pe_bl)) pss_nil) (pss_cons (ps_for PassesOwn.never rfl (pi_range2 (by rfl) T.n_range (pa_cons pe_int (pa_cons (pe_op op_add (pv 3) pe_int) pa_nil))) (pg_name (i := 6) scLaw.nd rfl (.inl rfl)) (pss_cons (ps_set (i := 5) scLaw.nd rfl (.inl rfl) (pe_op op_mul (pe_op op_fdivW (pv 5) (pe_call (ok_common T) hr (by rfl) T.gCommon T.FCommon.kp T.bCommon .nil pass0 (pa_cons (pv 5) (pa_cons (pe_ix (ix_listK K) (pv 4) (pe_op op_sub (pv 6) pe_int) (fun _ _ => rfl)) pa_nil)))) (pe_ix (ix_listK K) (pv 4) (pe_op op_sub (pv 6) pe_int) (fun _ _ => rfl)))) (pss_one (ps_if (pt_cmpR (op_inK K) (pv 6) (pe_tup (pa_cons pe_int (pa_cons pe_int (pa_cons (pe_op op_add pe_int (pe_op op_mod (pv 2) (pv 3))) (pa_cons (pv 3) pa_nil))))) (by rfl)) (pss_cons (ps_set (i := 7) scLaw.nd rfl (.inl rfl) (pe_call (ok_ll T) hr (by rfl) T.gLL T.FLL.kp T.bLL .nil pass0 (pa_cons (pv 3) (pa_cons (pv 6) pa_nil)))) (pss_one (ps_if (PW.pt (pw_or (pt_cmpR op_ne (pv 7) (pv 5) (nomark _)) (pw_or1 (pt_not (pt_val (pe_call (ok_islst T) hr (by rfl) T.gIsLst T.FIsLst.kp T.bIsLst .nil pass0 (pa_cons (pv 7) (pa_cons (pe_slice sl_list (pv 4) po_none (po_some (pv 6))) pa_nil)))))))) (pss_one (ps_ret pe_bl)) pss_nil))) pss_nil)))) (pss_cons (ps_if (pt_not (pt_val (pe_call (ok_islst T) hr (by rfl) T.gIsLst T.FIsLst.kp T.bIsLst .nil pass0 (pa_cons (pe_kw (ok_ll T) hr (by rfl) T.gLL T.FLL.kp T.kLL_depth_n pass0 (pk_cons (pv 3) (pk_cons (pv 3) pk_nil))) (pa_cons (pe_listRg rfl (by rfl) T.n_list (prg_2 (by rfl) T.n_range pe_int (pe_op op_add (pv 3) pe_int))) pa_nil))))) (pss_one (ps_ret pe_bl)) pss_nil) (pss_one (ps_if (pt_cmpR op_ne (pe_kw (ok_edge T) hr (by rfl) T.gEdge T.FEdge.kp T.kEdge_size_n pass0 (pk_cons (pe_op op_mod (pv 2) (pv 3)) (pk_cons (pv 3) pk_nil))) (pe_ix (ix_listK K) (pv 4) (pe_op op_mod (pv 2) (pv 3)) (fun _ _ => rfl)) (nomark _)) (pss_one (ps_ret pe_bl)) pss_nil))))))) (pss_one (ps_ret (pe_cmpR op_eq (pe_call (ok_ll T) hr (by rfl) T.gLL T.FLL.kp T.bLL .nil pass0 (pa_cons pe_int (pa_cons pe_int pa_nil))) pe_int (nomark _))))), ?_⟩
    refine ⟨fun σ H1 => ∃ (b : Nat) (pr : Addr) (rs : List Addr), σ = [some (.ref a), some (.ref pr), some (.int (b : Int)), none, none, none, none, none, none] ∧ RowsAt H1 pr rs ∧ rs.length = 61, ?_, ?_⟩
    · refine ⟨rfl, fun H1 pr rs s1 fpr hl R1 => ?_⟩
      refine ⟨.ref a, rfl, Nat.zero_le _, fun e ne => ⟨.list (ns.map PyData.int), .list (([] : List Int).map PyData.int), .lst (((s1.trans (same_new ne))).seq hS) (dp_ints ns), .lst (SqL.of upd_same) .nil, shp_listI ns, shp_listI [], _, rfl, ?_⟩⟩
      have s2 := s1.trans (same_new (o := .lst []) ne)
      have R2 : RowsAt (upd H1 e (.lst [])) pr rs := R1.same (same_new ne)
      cases ns with
      | nil =>
        refine iteF ?_
        refine ⟨by show 2 ≤ sizeLine; decide, fun t nt => ?_⟩
        refine ⟨t, [_, _], rfl, .inl (.inl upd_same), rfl, _, [_], rfl, _, [], rfl, rfl, ?_⟩
        exact ⟨0, pr, rs, rfl, R2.same (same_new nt), hl⟩
      | cons x r =>
        refine iteT ?_
        refine ⟨.ref a, rfl, a, _, 0, _, rfl, rfl, s2.seq hS, atI_nat (j := 0) rfl, _, _, rfl, rfl, (by show (0 : Int) < 60; decide), ?_⟩
        refine ⟨by show 2 ≤ sizeLine; decide, fun t nt => ?_⟩
        refine ⟨t, [_, _], rfl, .inl (.inl upd_same), rfl, _, [_], rfl, _, [], rfl, rfl, ?_⟩
        obtain ⟨b, eb⟩ := Int.eq_ofNat_of_zero_le (Int.emod_nonneg x (show (60 : Int) ≠ 0 by decide))
        refine ⟨b, pr, rs, ?_, R2.same (same_new nt), hl⟩
        show [_, _, some (V.int (x % 60)), _, _, _, _, _, _] = _
        rw [eb]
    · rintro σ H1 ⟨b, pr, rs, rfl, R1, hl⟩
      refine ⟨2, 61, rfl, ⟨by decide, by decide, by decide, by decide⟩, ?_⟩
      refine for_range (lo := 2) (n := 59) (fun i σ H2 => ∃ v3 v4 v5 v6 v7, σ = [some (.ref a), some (.ref pr), some (.int (b : Int)), v3, v4, v5, v6, v7, none] ∧ Same H1 H2) ⟨none, none, none, none, none, rfl, Same.refl _⟩ ?_ ?_
      · rintro i σ H2 hi ⟨v3, v4, v5, v6, v7, rfl, s2⟩
        rw [show (2 : Int) + (i : Int) = ((2 + i : Nat) : Int) by omega]
        generalize hn0 : 2 + i = n
        have hn1 : 2 ≤ n := by omega
        have hn2 : n ≤ 60 := by omega
        have R2 := R1.same s2
        obtain ⟨r, er, hr2⟩ := R2.at (K := K) hl (show n - 1 < 61 by omega)
        have en : (n : Int) - 1 = ((n - 1 : Nat) : Int) := by omega
        -- divisors, due
        refine ⟨_, rfl, (n : Int), rfl, by omega, by omega, fun D nD => ?_⟩
        refine lc_range (lo := 0) (fun l H3 => Same H2 H3 ∧ H3 D = some (.lst (natV ((List.range l).map fun k => n * C (n - 1) k)))) ⟨same_new nD, upd_same⟩ ?_ ?_
        · rintro l H3 hl3 ⟨s3, hD⟩
          have hln : l < n := by omega
          rw [Int.zero_add]
          refine ⟨rfl, _, rfl, .ref pr, rfl, _, rfl, _, _, rfl, rfl, pr, _, _, _, rfl, rfl, s3.seq (SqL.of R2.at_p), by rw [en]; exact er, _, rfl, r, _, _, _, rfl, rfl, s3.seq hr2, atI_nat (rowV_at (n - 1) (show l < 61 by omega)), _, _, rfl, rfl, .inl ⟨by omega, by omega⟩, _, hD, ?_, keep_upd s3 nD, ?_⟩
          · rw [natV_len, List.length_map, List.length_range]
            exact small1000 (by omega)
          · rw [upd_same, List.range_succ, List.map_append]
            unfold natV
            dsimp only
            rw [List.map_append, ← Int.natCast_mul]
            rfl
        · rintro H3 ⟨s3, hD⟩
          rw [Int.toNat_natCast] at hD
          have hDn : H3 D = some (.lst (natV (divN n))) := hD
          refine ⟨_, _, rfl, ?_⟩
          -- [edge_divisor ..] != divisors
          refine ⟨_, rfl, (n : Int), rfl, by omega, by omega, fun D2 nD2 => ?_⟩
          refine lc_range (lo := 0) (fun l H4 => Same H3 H4 ∧ H4 D2 = some (.lst (natV ((List.range l).map fun k => n * C (n - 1) k)))) ⟨same_new nD2, upd_same⟩ ?_ ?_
          · rintro l H4 hl4 ⟨s4, hD2⟩
            rw [Int.zero_add]
            refine ⟨rfl, _, rfl, _, rfl, n, l, rfl, hn2, by omega, _, hD2, ?_, keep_upd s4 nD2, ?_⟩
            · rw [natV_len, List.length_map, List.length_range]
              exact small1000 (by omega)
            · rw [upd_same, List.range_succ, List.map_append]
              unfold natV
              rw [List.map_append]
              rfl
          · rintro H4 ⟨s4, hD2⟩
            rw [Int.toNat_natCast] at hD2
            have hD2n : H4 D2 = some (.lst (natV (divN n))) := hD2
            have hD4 := s4 _ _ hDn
            refine ⟨.ref D, rfl, _, _, .lst (SqL.of hD2n) (dp_nats _), .lst (SqL.of hD4) (dp_nats _), shp_listI _, shp_listI _, _, rfl, ?_⟩
            rw [eqvL_ints]
            refine iteF ?_
            -- the depths
            refine ⟨_, rfl, _, _, rfl, rfl, 1, _, rfl, ⟨by decide, by decide, by omega, by omega⟩, ?_⟩
            refine for_range (lo := 1) (fun k σ H5 => ∃ v6 v7, σ = [some (.ref a), some (.ref pr), some (.int (b : Int)), some (.int (n : Int)), some (.ref D), some (.int (leastL n k : Nat)), v6, v7, none] ∧ Same H4 H5) ⟨v6, v7, rfl, Same.refl _⟩ ?_ ?_
            · rintro k σ H5 hk ⟨v6, v7, rfl, s5⟩
              have hkn : k < n := by omega
              have e1 := edge_pos hkn
              have e2 := edge_lt (d := k) hn2
              have g0 : 0 < Nat.gcd (leastL n k) (n * C (n - 1) k) := Nat.gcd_pos_of_pos_right _ e1
              have g1 : Nat.gcd (leastL n k) (n * C (n - 1) k) ≤ n * C (n - 1) k := Nat.gcd_le_right _ e1
              have hD5 := s5 _ _ hD4
              have ek : (1 : Int) + (k : Int) - 1 = (k : Int) := by omega
              have ak : atI (natV (divN n)) (1 + (k : Int) - 1) = some (V.int ((n * C (n - 1) k : Nat) : Int)) := by
                rw [ek]
                exact atI_nat (divN_at hkn)
              have es : ((leastL n k : Nat) : Int) / ((Nat.gcd (leastL n k) (n * C (n - 1) k) : Nat) : Int) * ((n * C (n - 1) k : Nat) : Int) = ((leastL n (k + 1) : Nat) : Int) := by
                show _ = ((stepL (leastL n k) (n * C (n - 1) k) : Nat) : Int)
                unfold stepL
                rw [Int.natCast_mul _ (n * C (n - 1) k), Int.natCast_ediv]
              refine ⟨_, rfl, _, rfl, .ref D, rfl, _, rfl, _, _, rfl, rfl, D, _, _, _, rfl, rfl, SqL.of hD5, ak, leastL n k, n * C (n - 1) k, rfl, _, _, rfl, rfl, wide_div (b := 64) (by omega) (by omega) (by decide) (by decide), .ref D, rfl, _, rfl, _, _, rfl, rfl, D, _, _, _, rfl, rfl, SqL.of hD5, ak, _, _, rfl, rfl, .inr ⟨by omega, by omega⟩, ?_⟩
              dsimp only [gName]
              rw [es, show (1 : Int) + (k : Int) = ((k + 1 : Nat) : Int) by omega]
              -- tall in (1, 2, 1 + start % wide, wide)
              refine ⟨_, rfl, _, rfl, _, rfl, _, _, rfl, rfl, (show (0 : Int) < (n : Int) by omega), _, _, rfl, rfl, _, rfl, by show 4 ≤ sizeLine; decide, fun t nt => ?_⟩
              have s6 := s5.trans (same_new (o := .tup [V.int 1, V.int 2, V.int (1 + (b : Int) % (n : Int)), V.int (n : Int)]) nt)
              refine ⟨t, _, rfl, .inr (SqT.of upd_same), rfl, rfl, _, rfl, ite2 (fun h1 => ?_) (fun h1 => ?_)⟩
              · refine ⟨_, rfl, _, rfl, n, k + 1, rfl, hn2, by omega, by omega, ?_⟩
                refine ⟨_, rfl, _, rfl, rfl, _, rfl, ?_⟩
                refine iteNS rfl ?_
                have hD6 := s6 _ _ hD4
                refine ⟨_, rfl, .ref D, rfl, _, rfl, _, rfl, D, _, rfl, SqL.of hD6, fun p np => ?_⟩
                rw [cut_take, natV_take]
                refine ⟨leastL n (k + 1), p, _, rfl, SqL.of upd_same, ?_, fun x hx => divN_pos x (List.mem_of_mem_take hx), leastL_pos (by omega), leastL_lt (by omega) hn2 (by omega), leastL_is (by omega) hn2 (by omega), fun H7 s7 => ?_⟩
                · rw [List.length_take, divN_len]
                  omega
                · exact ⟨true, rfl, iteF ⟨_, _, rfl, (s6.trans (same_new np)).trans s7⟩⟩
              · exact ⟨_, _, rfl, s6⟩
            · rintro σ H5 ⟨v6, v7, rfl, s5⟩
              have hD5 := s5 _ _ hD4
              rw [show ((n : Int) + 1 - 1).toNat = n by omega]
              -- not is_least(least_lists(depth=wide, n=wide), ..)
              refine ⟨_, rfl, _, rfl, n, n, rfl, hn2, by omega, Nat.le_refl _, ?_⟩
              refine ⟨_, rfl, _, _, rfl, rfl, 1, _, rfl, rfl, ⟨by decide, by decide, by omega, by omega, by omega⟩, fun r6 nr6 => ?_⟩
              dsimp only
              rw [rg_nat]
              refine ⟨leastL n n, r6, _, rfl, SqL.of upd_same, ?_, ?_, leastL_pos (Nat.le_refl _), leastL_lt (by omega) hn2 (Nat.le_refl _), leastL_full (by omega) hn2, fun H7 s7 => ?_⟩
              · rw [List.length_range']
                omega
              · intro x hx
                rw [List.mem_range'_1] at hx
                omega
              · refine ⟨true, rfl, iteF ?_⟩
                have s8 := (s5.trans (same_new (o := .lst (natV (List.range' 1 n))) nr6)).trans s7
                have hD8 := s8 _ _ hD4
                -- edge_divisor(size=start % wide, n=wide) != divisors[start % wide]
                have eb : (b : Int) % (n : Int) = ((b % n : Nat) : Int) := (Int.natCast_emod _ _).symm
                have hbn : b % n < n := Nat.mod_lt _ (by omega)
                refine ⟨_, rfl, _, rfl, _, _, rfl, rfl, (show (0 : Int) < (n : Int) by omega), _, rfl, n, b % n, ?_, hn2, by omega, ?_⟩
                · show [V.int (n : Int), V.int ((b : Int) % (n : Int))] = _
                  rw [eb]
                · refine ⟨.ref D, rfl, _, rfl, _, rfl, _, _, rfl, rfl, (show (0 : Int) < (n : Int) by omega), D, _, _, V.int ((n * C (n - 1) (b % n) : Nat) : Int), rfl, rfl, SqL.of hD8, ?_, rfl, _, rfl, ?_⟩
                  · rw [eb]
                    exact atI_nat (divN_at hbn)
                  · refine iteNS rfl ?_
                    exact ⟨_, _, _, _, _, rfl, ((s2.trans s3).trans s4).trans s8⟩
      · rintro σ H2 ⟨v3, v4, v5, v6, v7, rfl, s2⟩
        refine ⟨60, 3, rfl, by decide, by decide, by decide, rfl, ?_⟩
        rw [least_60_3]
        exact q _
end
theorem all_mk {l : PySem.W.OpenLaw} {w : World} {K : PySem.W.Frag} {h : Heap} {mg : Str → Option Value} {fa f1 f2 f3 f4 f5 f6 f7 f8 f9 : Addr} (X : K.In h) (G : h.Ns mainGlobals mg) (hfa : mg "law" = some (.ref fa))
    {od1 an1 od2 an2 od3 an3 od4 an4 od5 an5 od6 an6 od7 an7 od8 an8 od9 an9 : Option Addr} {sl1 sl2 sl3 sl4 sl5 sl6 sl7 sl8 sl9 : Array (Option Value)} {oc1 kV1 dc1 pm1 cd1 ct1 oc2 kV2 dc2 pm2 cd2 ct2 oc3 kV3 dc3 pm3 cd3 ct3 oc4 kV4 dc4 pm4 cd4 ct4 oc5 kV5 dc5 pm5 cd5 ct5 oc6 kV6 dc6 pm6 cd6 ct6 oc7 kV7 dc7 pm7 cd7 ct7 oc8 kV8 dc8 pm8 cd8 ct8 oc9 kV9 dc9 pm9 cd9 ct9 : Value}
    (a1 : PySem.W.nsIn K mainGlobals "binomial" = some (some (.ref f1)))
    (l1 : K.lookup f1 = some ⟨oc1, od1, .func (PySem.W.fnOf "binomial" "binomial" (defArgs sBin) (defBody sBin) (defScope sBin) .none kV1 dc1 pm1 an1 cd1 ct1), sl1⟩)
    (c1 : PySem.W.codeIn K cd1 "binomial" = true)
    (k1 : PySem.W.keepIn K (.ref f1) = true)
    (a2 : PySem.W.nsIn K mainGlobals "edge_divisor" = some (some (.ref f2)))
    (l2 : K.lookup f2 = some ⟨oc2, od2, .func (PySem.W.fnOf "edge_divisor" "edge_divisor" (defArgs sEdge) (defBody sEdge) (defScope sEdge) .none kV2 dc2 pm2 an2 cd2 ct2), sl2⟩)
    (c2 : PySem.W.codeIn K cd2 "edge_divisor" = true)
    (k2 : PySem.W.keepIn K (.ref f2) = true)
    (a3 : PySem.W.nsIn K mainGlobals "greatest_divisor" = some (some (.ref f3)))
    (l3 : K.lookup f3 = some ⟨oc3, od3, .func (PySem.W.fnOf "greatest_divisor" "greatest_divisor" (defArgs sGcd) (defBody sGcd) (defScope sGcd) .none kV3 dc3 pm3 an3 cd3 ct3), sl3⟩)
    (c3 : PySem.W.codeIn K cd3 "greatest_divisor" = true)
    (k3 : PySem.W.keepIn K (.ref f3) = true)
    (a4 : PySem.W.nsIn K mainGlobals "least_multiple" = some (some (.ref f4)))
    (l4 : K.lookup f4 = some ⟨oc4, od4, .func (PySem.W.fnOf "least_multiple" "least_multiple" (defArgs sLcm) (defBody sLcm) (defScope sLcm) .none kV4 dc4 pm4 an4 cd4 ct4), sl4⟩)
    (c4 : PySem.W.codeIn K cd4 "least_multiple" = true)
    (k4 : PySem.W.keepIn K (.ref f4) = true)
    (a5 : PySem.W.nsIn K mainGlobals "least_lists" = some (some (.ref f5)))
    (l5 : K.lookup f5 = some ⟨oc5, od5, .func (PySem.W.fnOf "least_lists" "least_lists" (defArgs sLL) (defBody sLL) (defScope sLL) .none kV5 dc5 pm5 an5 cd5 ct5), sl5⟩)
    (c5 : PySem.W.codeIn K cd5 "least_lists" = true)
    (k5 : PySem.W.keepIn K (.ref f5) = true)
    (a6 : PySem.W.nsIn K mainGlobals "_law_rows" = some (some (.ref f6)))
    (l6 : K.lookup f6 = some ⟨oc6, od6, .func (PySem.W.fnOf "_law_rows" "_law_rows" (defArgs sRows) (defBody sRows) (defScope sRows) .none kV6 dc6 pm6 an6 cd6 ct6), sl6⟩)
    (c6 : PySem.W.codeIn K cd6 "_law_rows" = true)
    (k6 : PySem.W.keepIn K (.ref f6) = true)
    (a7 : PySem.W.nsIn K mainGlobals "_law_common" = some (some (.ref f7)))
    (l7 : K.lookup f7 = some ⟨oc7, od7, .func (PySem.W.fnOf "_law_common" "_law_common" (defArgs sCommon) (defBody sCommon) (defScope sCommon) .none kV7 dc7 pm7 an7 cd7 ct7), sl7⟩)
    (c7 : PySem.W.codeIn K cd7 "_law_common" = true)
    (k7 : PySem.W.keepIn K (.ref f7) = true)
    (a8 : PySem.W.nsIn K mainGlobals "_law_is_least" = some (some (.ref f8)))
    (l8 : K.lookup f8 = some ⟨oc8, od8, .func (PySem.W.fnOf "_law_is_least" "_law_is_least" (defArgs sIsLst) (defBody sIsLst) (defScope sIsLst) .none kV8 dc8 pm8 an8 cd8 ct8), sl8⟩)
    (c8 : PySem.W.codeIn K cd8 "_law_is_least" = true)
    (k8 : PySem.W.keepIn K (.ref f8) = true)
    (a9 : PySem.W.nsIn K mainGlobals "law" = some (some (.ref f9)))
    (l9 : K.lookup f9 = some ⟨oc9, od9, .func (PySem.W.fnOf "law" "law" (defArgs sLaw) (defBody sLaw) (defScope sLaw) .none kV9 dc9 pm9 an9 cd9 ct9), sl9⟩)
    (c9 : PySem.W.codeIn K cd9 "law" = true)
    (k9 : PySem.W.keepIn K (.ref f9) = true)
    (z1 : PySem.W.nsIn K mainGlobals "len" = some none)
    (z2 : PySem.W.nsIn K mainGlobals "range" = some none)
    (z3 : PySem.W.nsIn K mainGlobals "min" = some none)
    (z4 : PySem.W.nsIn K mainGlobals "any" = some none)
    (z5 : PySem.W.nsIn K mainGlobals "list" = some none)
    : ∃ fd : FuncData, (∀ (s : Shared) (v : Value), BindsTo s fd ⟨[v], []⟩ [("_law_script", v)]) ∧ ∀ base : Heap, K.In base → base.Ns mainGlobals mg → FnOk l.prog w K mg base CX0 4 fa fd ["_law_script"] (spLaw K) := by
  have e := hfa.symm.trans (PySem.W.mg_of X G a9)
  cases e
  have F1 := fun_mk (st := sBin) l1 c1 k1
  have b1 := F1.binds (ps := ["n", "k"]) fun _ _ _ _ _ _ us hl => match us, hl with | [_, _], _ => rfl
  have F2 := fun_mk (st := sEdge) l2 c2 k2
  have b2 := F2.binds (ps := ["n", "size"]) fun _ _ _ _ _ _ us hl => match us, hl with | [_, _], _ => rfl
  have F3 := fun_mk (st := sGcd) l3 c3 k3
  have b3 := F3.binds (ps := ["a", "b"]) fun _ _ _ _ _ _ us hl => match us, hl with | [_, _], _ => rfl
  have F4 := fun_mk (st := sLcm) l4 c4 k4
  have b4 := F4.binds (ps := ["a", "b"]) fun _ _ _ _ _ _ us hl => match us, hl with | [_, _], _ => rfl
  have F5 := fun_mk (st := sLL) l5 c5 k5
  have b5 := F5.binds (ps := ["n", "depth"]) fun _ _ _ _ _ _ us hl => match us, hl with | [_, _], _ => rfl
  have F6 := fun_mk (st := sRows) l6 c6 k6
  have b6 := F6.binds (ps := []) fun _ _ _ _ _ _ us hl => match us, hl with | [], _ => rfl
  have F7 := fun_mk (st := sCommon) l7 c7 k7
  have b7 := F7.binds (ps := ["_law_one", "_law_other"]) fun _ _ _ _ _ _ us hl => match us, hl with | [_, _], _ => rfl
  have F8 := fun_mk (st := sIsLst) l8 c8 k8
  have b8 := F8.binds (ps := ["_law_number", "_law_divisors"]) fun _ _ _ _ _ _ us hl => match us, hl with | [_, _], _ => rfl
  have F9 := fun_mk (st := sLaw) l9 c9 k9
  have kb1 := Fun_kb (ps := ["n", "depth"]) (ks := ["depth", "n"]) [1, 0] 2 F5 (by decide) fun _ _ _ _ _ _ ws hl => match ws, hl with | [_, _], _ => rfl
  have kb2 := Fun_kb (ps := ["n", "size"]) (ks := ["size", "n"]) [1, 0] 2 F2 (by decide) fun _ _ _ _ _ _ ws hl => match ws, hl with | [_, _], _ => rfl
  have T : Txt K mg := ⟨f1, _, F1, b1, PySem.W.mg_of X G a1, f2, _, F2, b2, PySem.W.mg_of X G a2, f3, _, F3, b3, PySem.W.mg_of X G a3, f4, _, F4, b4, PySem.W.mg_of X G a4, f5, _, F5, b5, PySem.W.mg_of X G a5, f6, _, F6, b6, PySem.W.mg_of X G a6, f7, _, F7, b7, PySem.W.mg_of X G a7, f8, _, F8, b8, PySem.W.mg_of X G a8, kb1, kb2, PySem.W.mg_none_of X G z1, PySem.W.mg_none_of X G z2, PySem.W.mg_none_of X G z3, PySem.W.mg_none_of X G z4, PySem.W.mg_none_of X G z5⟩
  exact ⟨PySem.W.fnOf "law" "law" (defArgs sLaw) (defBody sLaw) (defScope sLaw) .none kV9 dc9 pm9 an9 cd9 ct9, fun s v => .of_eq rfl, fun base _ _ => ok_law F9 T⟩
end Ef
open PySem PySem.W PyProof.Rows
set_option maxRecDepth 100000 in
set_option maxHeartbeats 0 in
theorem PySem.Challenge.cw_evenfailover_k02_least_numbers_of_lists_holds : PySem.Challenge.rw_evenfailover_k02_least_numbers_of_lists.Holds := by
  w_on; o_law; k_head; (case hw => w_witness2)
  k_fill
  refine L2.walk_of (l := PySem.Challenge.rw_evenfailover_k02_least_numbers_of_lists) (n := 63) (k := 4) (x := "_law_script") (CX := fun _ => L2.CX0) (sp := fun w => Ef.spLaw _) rfl (by decide) rfl ⟨rfl, by decide, by decide⟩ (fun w h Y => PySem.W.kIn_of Y) ?F (fun _ _ a ns hl _ hS => ⟨a, ns, rfl, hS, hl, fun _ => rfl⟩) (fun _ _ _ _ _ h => h)
  case F =>
    intro w mg fa h KX G hmg
    refine' Ef.all_mk KX G hmg ?a1 ?l1 ?c1 ?k1 ?a2 ?l2 ?c2 ?k2 ?a3 ?l3 ?c3 ?k3 ?a4 ?l4 ?c4 ?k4 ?a5 ?l5 ?c5 ?k5 ?a6 ?l6 ?c6 ?k6 ?a7 ?l7 ?c7 ?k7 ?a8 ?l8 ?c8 ?k8 ?a9 ?l9 ?c9 ?k9 ?z1 ?z2 ?z3 ?z4 ?z5
    (case a1 => k_is)
    (case l1 => k_is)
    (case c1 => k_is)
    (case k1 => k_is)
    (case a2 => k_is)
    (case l2 => k_is)
    (case c2 => k_is)
    (case k2 => k_is)
    (case a3 => k_is)
    (case l3 => k_is)
    (case c3 => k_is)
    (case k3 => k_is)
    (case a4 => k_is)
    (case l4 => k_is)
    (case c4 => k_is)
    (case k4 => k_is)
    (case a5 => k_is)
    (case l5 => k_is)
    (case c5 => k_is)
    (case k5 => k_is)
    (case a6 => k_is)
    (case l6 => k_is)
    (case c6 => k_is)
    (case k6 => k_is)
    (case a7 => k_is)
    (case l7 => k_is)
    (case c7 => k_is)
    (case k7 => k_is)
    (case a8 => k_is)
    (case l8 => k_is)
    (case c8 => k_is)
    (case k8 => k_is)
    (case a9 => k_is)
    (case l9 => k_is)
    (case c9 => k_is)
    (case k9 => k_is)
    (case z1 => k_is)
    (case z2 => k_is)
    (case z3 => k_is)
    (case z4 => k_is)
    (case z5 => k_is)

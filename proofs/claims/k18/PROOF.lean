import PyProof.Rows.All
import Wide.All
import OpenK.AllK
import Wide.FinOn
import HandS.ForMost
import HandS.RaiseMore
import HandS.Strs
import HandS.SetFor
import HandS.Conv
import HandS.Wide
import HandS.IsInst
import HandS.Codes
import HandS.TupAny
import HandS.ForExc
import HandS.ExcInit
import HandS.ExcField
import HandS.ExcIs
import HandS.ExcOwn
import HandS.TupSets
import HandS.Walk
import HandS.RevRange
import HandS.Rev
import HandS.Style
import HandS.DictComp
import KE.GoesMore
import HandS.Nested
import KE.KTupSum
import HandS.Deep
import KE.SortData
import HandS.Comp
import KE.KeyNested
import HandS.DictSubView
import HandS.TupLen
import KE.KDictSum
import KE.KDictWalk
import HandS.SortKw
import KE.DataMinMax
import KE.KDictPairs
import HandS.Lambda
import HandS.EndTab
import KE.KDictList
import KE.KMinKey
import KE.KSortKeyAny
import PySem.Challenge.RW_evenfailover_k18_tables_and_judging_by_k
set_option Elab.async false
set_option linter.all false
set_option maxRecDepth 100000
set_option maxHeartbeats 4000000
namespace Ef
/-- Pascal's triangle -/
def C : Nat → Nat → Nat
  | _, 0 => 1
  | 0, _ + 1 => 0
  | n + 1, k + 1 => C n k + C n (k + 1)
theorem C_zero (n : Nat) : C n 0 = 1 := by cases n <;> rfl
theorem C_zs (k : Nat) : C 0 (k + 1) = 0 := rfl
theorem C_ss (n k : Nat) : C (n + 1) (k + 1) = C n k + C n (k + 1) := rfl
theorem C_big : ∀ (n k : Nat), n < k → C n k = 0
  | 0, k + 1, _ => rfl
  | n + 1, k + 1, h => by
    rw [C_ss, C_big n k (by omega), C_big n (k + 1) (by omega)]
theorem C_self : ∀ n : Nat, C n n = 1
  | 0 => rfl
  | n + 1 => by rw [C_ss, C_self n, C_big n (n + 1) (by omega)]
theorem C_absorb : ∀ (n k : Nat), C (n + 1) (k + 1) * (k + 1) = (n + 1) * C n k
  | 0, 0 => rfl
  | 0, k + 1 => by
    rw [C_ss, C_zs, C_zs]; simp
  | n + 1, 0 => by
    have h := C_absorb n 0
    rw [C_zero] at h
    rw [C_ss, C_zero]
    omega
  | n + 1, j + 1 => by
    have h1 := C_absorb n j
    have h2 := C_absorb n (j + 1)
    have e : C (n + 1) (j + 1) = C n j + C n (j + 1) := C_ss n j
    rw [C_ss (n + 1) (j + 1)]
    have a1 : (C (n + 1) (j + 1) + C (n + 1) (j + 1 + 1)) * (j + 1 + 1) = C (n + 1) (j + 1) * (j + 1) + C (n + 1) (j + 1) + C (n + 1) (j + 1 + 1) * (j + 1 + 1) := by
      rw [Nat.add_mul, Nat.mul_succ (C (n + 1) (j + 1)) (j + 1)]
    rw [a1, h1, h2]
    have a2 : (n + 1 + 1) * C (n + 1) (j + 1) = (n + 1) * C (n + 1) (j + 1) + C (n + 1) (j + 1) := Nat.succ_mul _ _
    rw [a2]
    have a3 : (n + 1) * C (n + 1) (j + 1) = (n + 1) * C n j + (n + 1) * C n (j + 1) := by rw [e, Nat.mul_add]
    rw [a3]
    omega
theorem C_step (n k : Nat) (h : k ≤ n) : C n (k + 1) * (k + 1) = C n k * (n - k) := by
  have h1 := C_absorb n k
  rw [C_ss, Nat.add_mul] at h1
  have h2 : (n + 1) * C n k = C n k * (k + 1) + C n k * (n - k) := by
    rw [← Nat.mul_add, Nat.mul_comm]
    congr 1
    omega
  omega
theorem C_symm : ∀ (n k : Nat), k ≤ n → C n k = C n (n - k)
  | n, 0, _ => by rw [C_zero, Nat.sub_zero, C_self]
  | n + 1, k + 1, h => by
    by_cases e : k = n
    · subst e
      rw [C_self, Nat.sub_self, C_zero]
    · have e1 : n + 1 - (k + 1) = (n - (k + 1)) + 1 := by omega
      rw [e1, C_ss, C_ss, ← C_symm n (k + 1) (by omega), show n - (k + 1) + 1 = n - k by omega, ← C_symm n k (by omega), Nat.add_comm]
theorem C_le : ∀ (n k : Nat), C n k ≤ 2 ^ n
  | n, 0 => by rw [C_zero]; exact Nat.one_le_two_pow
  | 0, k + 1 => by rw [C_zs]; exact Nat.zero_le _
  | n + 1, k + 1 => by
    have a := C_le n k
    have b := C_le n (k + 1)
    rw [C_ss, Nat.pow_succ]
    omega
theorem C_pos : ∀ (n k : Nat), k ≤ n → 0 < C n k
  | n, 0, _ => by rw [C_zero]; decide
  | n + 1, k + 1, h => by
    rw [C_ss]
    have := C_pos n k (by omega)
    omega
theorem C_min (n k : Nat) (h : k ≤ n) : C n (min k (n - k)) = C n k := by
  by_cases e : k ≤ n - k
  · rw [Nat.min_eq_left e]
  · rw [Nat.min_eq_right (by omega), ← C_symm n k h]
theorem C_60 (n k : Nat) (h : n ≤ 60) : C n k ≤ 1152921504606846976 := Nat.le_trans (C_le n k) (Nat.le_trans (Nat.pow_le_pow_right (by decide) h) (by decide))
/-- what the program's binomial answers -/
def binZ (n k : Int) : Int := if k < 0 ∨ n < k then 0 else (C n.toNat k.toNat : Int)
theorem binZ_nat (n k : Nat) : binZ n k = (C n k : Int) := by
  unfold binZ
  by_cases h : n < k
  · rw [if_pos (by omega), C_big n k h]; rfl
  · rw [if_neg (by omega)]; simp
/-- one step of its product -/
theorem C_div (n s : Nat) (h : s < n) : ((C n s : Int) * ((n : Int) + 1 - (1 + (s : Int)))) / (1 + (s : Int)) = (C n (s + 1) : Int) := by
  have e : (C n s : Int) * ((n : Int) + 1 - (1 + (s : Int))) = (C n (s + 1) : Int) * (1 + (s : Int)) := by
    have h1 := C_step n s (by omega)
    have h2 : ((n : Int) + 1 - (1 + (s : Int))) = ((n - s : Nat) : Int) := by omega
    have h3 : (1 + (s : Int)) = ((s + 1 : Nat) : Int) := by omega
    rw [h2, h3, ← Int.natCast_mul, ← Int.natCast_mul, h1]
  rw [e]
  exact Int.mul_ediv_cancel _ (by omega)
end Ef
namespace Ef
/-! ### the least numbers of lists -/
def stepL (a b : Nat) : Nat := a / Nat.gcd a b * b
def leastL (n : Nat) : Nat → Nat
  | 0 => 1
  | d + 1 => stepL (leastL n d) (n * C (n - 1) d)
theorem stepL_pos {a b : Nat} (ha : 0 < a) (hb : 0 < b) : 0 < stepL a b := by
  unfold stepL
  have h1 : Nat.gcd a b ≤ a := Nat.gcd_le_left b ha
  have h2 : 0 < Nat.gcd a b := Nat.gcd_pos_of_pos_left b ha
  exact Nat.mul_pos (Nat.div_pos h1 h2) hb
theorem edge_pos {n d : Nat} (h : d < n) : 0 < n * C (n - 1) d := Nat.mul_pos (by omega) (C_pos _ _ (by omega))
theorem leastL_pos {n : Nat} : ∀ {d : Nat}, d ≤ n → 0 < leastL n d
  | 0, _ => Nat.one_pos
  | d + 1, h => stepL_pos (leastL_pos (by omega)) (edge_pos (by omega))
theorem C_adj : ∀ (n k : Nat), C n k + C n (k + 1) ≤ 2 ^ n
  | 0, 0 => by decide
  | 0, k + 1 => by
    rw [C_zs, C_zs]
    decide
  | n + 1, 0 => by
    have h := C_adj n 0
    have h1 : 1 ≤ 2 ^ n := Nat.one_le_two_pow
    rw [C_zero] at h
    rw [C_ss, C_zero, C_zero, Nat.pow_succ]
    omega
  | n + 1, j + 1 => by
    have h := C_adj n j
    have h2 := C_adj n (j + 1)
    rw [C_ss, C_ss, Nat.pow_succ]
    omega
theorem C_half (n k : Nat) (h : 1 ≤ n) : C n k ≤ 2 ^ (n - 1) := by
  obtain ⟨m, rfl⟩ : ∃ m, n = m + 1 := ⟨n - 1, by omega⟩
  cases k with
  | zero =>
    rw [C_zero]
    exact Nat.one_le_two_pow
  | succ k => exact C_adj m k
theorem edge_lt {n d : Nat} (h : n ≤ 60) : n * C (n - 1) d < 18446744073709551616 := by
  by_cases h1 : n ≤ 1
  · have e : n - 1 = 0 := by omega
    have h2 : C (n - 1) d ≤ 2 ^ 0 := by rw [e]; exact C_le 0 d
    exact Nat.lt_of_le_of_lt (Nat.mul_le_mul h1 h2) (by decide)
  · have h2 : C (n - 1) d ≤ 2 ^ 58 := Nat.le_trans (C_half (n - 1) d (by omega)) (Nat.pow_le_pow_right (by decide) (by omega))
    exact Nat.lt_of_le_of_lt (Nat.mul_le_mul h h2) (by decide)
/-! rows of the triangle, reckoned one from the other -/
def nextRow : List Nat → List Nat := fun r => 1 :: List.zipWith (· + ·) r r.tail
def isRow (n : Nat) (r : List Nat) : Prop := ∀ k, k ≤ 60 → r[k]? = some (C n k)
theorem nextRow_is {n : Nat} {r : List Nat} (h : isRow n r) : ∀ k, k ≤ 60 → (nextRow r)[k]? = some (C (n + 1) k)
  | 0, _ => by
    rw [C_zero]
    rfl
  | k + 1, hk => by
    have h1 := h k (by omega)
    have h2 := h (k + 1) hk
    unfold nextRow
    rw [List.getElem?_cons_succ, List.getElem?_zipWith, h1, List.getElem?_tail, h2]
    rfl
def row0 : List Nat := 1 :: List.replicate 60 0
theorem row0_is : isRow 0 row0 := fun k hk => by
  cases k with
  | zero => rfl
  | succ k =>
    unfold row0
    rw [List.getElem?_cons_succ, List.getElem?_replicate, if_pos (by omega)]
    rfl
/-- P holds along the chain of least numbers: f of each -/
def chainOk (n : Nat) (f : Nat → Nat → Bool) : Nat → Nat → Nat → List Nat → Bool
  | 0, d, a, _ => f d a
  | m + 1, d, a, c :: r => f d a && chainOk n f m (d + 1) (stepL a (n * c)) r
  | _ + 1, _, _, [] => false
theorem chain_all {n : Nat} {f : Nat → Nat → Bool} {row : List Nat} (hr : isRow (n - 1) row) (hn : n ≤ 60) : ∀ (m d : Nat), d + m = n → chainOk n f m d (leastL n d) (row.drop d) = true → ∀ e, d ≤ e → e ≤ n → f e (leastL n e) = true
  | 0, d, h, ok, e, h1, h2 => by
    have e1 : e = d := by omega
    subst e1
    exact ok
  | m + 1, d, h, ok, e, h1, h2 => by
    have hd := hr d (by omega)
    have hlt : d < row.length := (List.getElem?_eq_some_iff.mp hd).1
    have hdr : row.drop d = C (n - 1) d :: row.drop (d + 1) := by
      rw [List.drop_eq_getElem_cons hlt]
      congr 1
      rw [List.getElem?_eq_getElem hlt] at hd
      exact Option.some.inj hd
    rw [hdr] at ok
    have ok2 : (f d (leastL n d) && chainOk n f m (d + 1) (leastL n (d + 1)) (row.drop (d + 1))) = true := ok
    rw [Bool.and_eq_true] at ok2
    by_cases c : e = d
    · rw [c]
      exact ok2.1
    · exact chain_all hr hn m (d + 1) (by omega) ok2.2 e (by omega) h2
def rowsOk (f : Nat → Nat → Nat → Bool) : Nat → Nat → List Nat → Bool
  | 0, _, _ => true
  | m + 1, n, row => chainOk n (f n) n 0 1 row && rowsOk f m (n + 1) (nextRow row)
theorem rows_all {f : Nat → Nat → Nat → Bool} : ∀ (m n : Nat) (row : List Nat), isRow (n - 1) row → 1 ≤ n → rowsOk f m n row = true → ∀ k, n ≤ k → k < n + m → k ≤ 60 → ∀ d, d ≤ k → f k d (leastL k d) = true
  | 0, _, _, _, _, _, k, h1, h2, _, _, _ => by omega
  | m + 1, n, row, hr, h0, ok, k, h1, h2, h6, d, hd => by
    have ok2 : (chainOk n (f n) n 0 1 row && rowsOk f m (n + 1) (nextRow row)) = true := ok
    rw [Bool.and_eq_true] at ok2
    by_cases c : k = n
    · subst c
      exact chain_all hr h6 k 0 (by omega) ok2.1 d (by omega) hd
    · have hr2 : isRow (n + 1 - 1) (nextRow row) := fun j hj => by
        have e : n + 1 - 1 = (n - 1) + 1 := by omega
        rw [e]
        exact nextRow_is hr j hj
      exact rows_all m (n + 1) (nextRow row) hr2 (by omega) ok2.2 k (by omega) (by omega) h6 d hd
theorem small_ok : rowsOk (fun _ _ a => Nat.blt a (2 ^ 100)) 60 1 row0 = true := by decide +kernel
theorem leastL_lt {n d : Nat} (h1 : 1 ≤ n) (h6 : n ≤ 60) (hd : d ≤ n) : leastL n d < 2 ^ 100 := by
  have h := rows_all 60 1 row0 row0_is (by decide) small_ok n h1 (by omega) h6 d hd
  have h2 : Nat.blt (leastL n d) (2 ^ 100) = true := h
  rw [Nat.blt_eq] at h2
  exact h2
end Ef
namespace Ef
/-! ### the standard table -/
theorem stepL_left (a b : Nat) (ha : 0 < a) : a ∣ stepL a b := by
  unfold stepL
  have h1 : Nat.gcd a b ∣ a := Nat.gcd_dvd_left a b
  have h2 : Nat.gcd a b ∣ b := Nat.gcd_dvd_right a b
  refine ⟨b / Nat.gcd a b, ?_⟩
  obtain ⟨x, hx⟩ := h1
  obtain ⟨y, hy⟩ := h2
  have g0 : 0 < Nat.gcd a b := Nat.gcd_pos_of_pos_left b ha
  generalize Nat.gcd a b = g at hx hy g0
  subst hx hy
  rw [Nat.mul_div_cancel_left _ g0, Nat.mul_div_cancel_left _ g0, Nat.mul_comm g x, Nat.mul_assoc]
theorem stepL_right (a b : Nat) : b ∣ stepL a b := ⟨a / Nat.gcd a b, Nat.mul_comm _ _⟩
theorem leastL_dvd {n : Nat} : ∀ {d : Nat}, d ≤ n → ∀ b, b < d → n * C (n - 1) b ∣ leastL n d
  | 0, _, b, h => by omega
  | d + 1, hd, b, h => by
    by_cases e : b = d
    · subst e
      exact stepL_right _ _
    · exact Nat.dvd_trans (leastL_dvd (by omega) b (by omega)) (stepL_left _ _ (leastL_pos (by omega)))
/-- width of a block at a level -/
def wd (n c s : Nat) : Nat := c / (n * C (n - 1) s)
theorem wd_eq {n c s : Nat} (h : n * C (n - 1) s ∣ c) : wd n c s * (n * C (n - 1) s) = c := Nat.div_mul_cancel h
theorem wd_pos {n c s : Nat} (h : n * C (n - 1) s ∣ c) (hc : 0 < c) : 0 < wd n c s := by
  have e := wd_eq h
  cases z : wd n c s with
  | zero =>
    rw [z, Nat.zero_mul] at e
    omega
  | succ k => omega
theorem wd_step {n c b : Nat} (h1 : n * C (n - 1) b ∣ c) (h2 : n * C (n - 1) (b + 1) ∣ c) (hb : b + 1 < n) : wd n c b * (b + 1) = wd n c (b + 1) * (n - (b + 1)) := by
  have e1 := wd_eq h1
  have e2 := wd_eq h2
  have s := C_step (n - 1) b (by omega)
  have p : 0 < n * C (n - 1) b := edge_pos (by omega)
  have x1 : wd n c b * (b + 1) * (n * C (n - 1) b) = c * (b + 1) := by
    rw [Nat.mul_right_comm, e1]
  have x2 : wd n c (b + 1) * (n - (b + 1)) * (n * C (n - 1) b) = c * (b + 1) := by
    have y : wd n c (b + 1) * (n * C (n - 1) (b + 1)) * (b + 1) = c * (b + 1) := by rw [e2]
    rw [← y, Nat.mul_assoc, Nat.mul_assoc (wd n c (b + 1)), Nat.mul_assoc n, s, show n - 1 - b = n - (b + 1) by omega]
    congr 1
    rw [Nat.mul_comm (n - (b + 1)), Nat.mul_assoc]
  exact Nat.eq_of_mul_eq_mul_right p (x1.trans x2.symm)
theorem wd_zero {n c : Nat} (h : n * C (n - 1) 0 ∣ c) : wd n c 0 * n = c := by
  have e := wd_eq h
  rw [C_zero, Nat.mul_one] at e
  exact e
theorem wd_le (n c s : Nat) : wd n c s ≤ c := Nat.div_le_self _ _
/-- what 'follow' takes and what it leaves -/
def fol (n c : Nat) : List Nat → List Nat → Nat → List Nat × Nat
  | [], _, r => ([], r)
  | s :: ss, L, r => (L.getD (r / wd n c s) 0 :: (fol n c ss (L.eraseIdx (r / wd n c s)) (wd n c s * (L.getD (r / wd n c s) 0 - r / wd n c s) + r % wd n c s)).1,
      (fol n c ss (L.eraseIdx (r / wd n c s)) (wd n c s * (L.getD (r / wd n c s) 0 - r / wd n c s) + r % wd n c s)).2)
def FolOk (n c : Nat) : List Nat → List Nat → Nat → Prop
  | [], _, _ => True
  | s :: ss, L, r => 0 < wd n c s ∧ r / wd n c s < L.length ∧ r / wd n c s ≤ L.getD (r / wd n c s) 0 ∧
      FolOk n c ss (L.eraseIdx (r / wd n c s)) (wd n c s * (L.getD (r / wd n c s) 0 - r / wd n c s) + r % wd n c s)
theorem fol_cons (n c s : Nat) (ss L : List Nat) (r : Nat) : fol n c (s :: ss) L r = (L.getD (r / wd n c s) 0 :: (fol n c ss (L.eraseIdx (r / wd n c s)) (wd n c s * (L.getD (r / wd n c s) 0 - r / wd n c s) + r % wd n c s)).1, (fol n c ss (L.eraseIdx (r / wd n c s)) (wd n c s * (L.getD (r / wd n c s) 0 - r / wd n c s) + r % wd n c s)).2) := rfl
theorem fol_len (n c : Nat) : ∀ ss L r, (fol n c ss L r).1.length = ss.length
  | [], _, _ => rfl
  | s :: ss, L, r => congrArg (· + 1) (fol_len n c ss _ _)
/-- ascending -/
abbrev Asc (L : List Nat) : Prop := L.Pairwise (· < ·)
theorem getD_of {L : List Nat} {i : Nat} (h : i < L.length) : L[i]? = some (L.getD i 0) := by
  rw [List.getD_eq_getElem?_getD, List.getElem?_eq_getElem h]
  rfl
/-- an ascending list counted from lo -/
theorem asc_from : ∀ {L : List Nat} {lo : Nat}, Asc L → (∀ x ∈ L, lo ≤ x) → ∀ {i x : Nat}, L[i]? = some x → lo + i ≤ x
  | [], _, _, _, _, _, h => by cases h
  | y :: L, lo, a, hl, 0, x, h => by
    obtain rfl : y = x := Option.some.inj h
    exact hl y List.mem_cons_self
  | y :: L, lo, a, hl, i + 1, x, h => by
    have h1 : L[i]? = some x := h
    have hy := hl y List.mem_cons_self
    have h2 := asc_from (L := L) (lo := lo + 1) (List.pairwise_cons.mp a).2 (fun z hz => by
      have := (List.pairwise_cons.mp a).1 z hz
      omega) h1
    omega
theorem asc_ge {L : List Nat} (a : Asc L) {i x : Nat} (h : L[i]? = some x) : i ≤ x := by
  have := asc_from a (lo := 0) (fun _ _ => Nat.zero_le _) h
  omega
theorem asc_le : ∀ {L : List Nat} {n : Nat}, Asc L → (∀ x ∈ L, x < n) → ∀ {i x : Nat}, L[i]? = some x → x + (L.length - i) ≤ n
  | [], _, _, _, _, _, h => by cases h
  | [y], n, _, hl, 0, x, h => by
    obtain rfl : y = x := Option.some.inj h
    have := hl y List.mem_cons_self
    show y + 1 ≤ n
    omega
  | y :: z :: L, n, a, hl, 0, x, h => by
    obtain rfl : y = x := Option.some.inj h
    have h1 := asc_le (L := z :: L) (List.pairwise_cons.mp a).2 (fun u hu => hl u (List.mem_cons_of_mem _ hu)) (i := 0) (x := z) rfl
    have h2 := (List.pairwise_cons.mp a).1 z List.mem_cons_self
    have e : (y :: z :: L).length = (z :: L).length + 1 := rfl
    omega
  | y :: L, n, a, hl, i + 1, x, h => by
    have h1 := asc_le (L := L) (List.pairwise_cons.mp a).2 (fun u hu => hl u (List.mem_cons_of_mem _ hu)) (i := i) (x := x) h
    have e : (y :: L).length = L.length + 1 := rfl
    omega
theorem asc_erase {L : List Nat} (a : Asc L) (i : Nat) : Asc (L.eraseIdx i) := a.sublist (List.eraseIdx_sublist L i)
/-- the way forward keeps within its bounds -/
theorem folOk_path {n c d : Nat} (hd : ∀ b, b < d → n * C (n - 1) b ∣ c) (hc : 0 < c) (hdn : d ≤ n) : ∀ (m b : Nat) (L : List Nat) (r : Nat), b + m = d → Asc L → (∀ x ∈ L, x < n) → L.length = n - b → (b < d → r < wd n c b * (n - b)) → FolOk n c (List.range' b m) L r
  | 0, _, _, _, _, _, _, _, _ => trivial
  | m + 1, b, L, r, e, a, hl, hlen, hr => by
    have hb := hd b (by omega)
    have w0 := wd_pos hb hc
    have hr2 := hr (by omega)
    have hi : r / wd n c b < L.length := by
      rw [hlen]
      exact Nat.div_lt_of_lt_mul hr2
    have hx := getD_of hi
    have g1 := asc_ge a hx
    have g2 := asc_le a hl hx
    refine ⟨w0, hi, g1, ?_⟩
    refine folOk_path hd hc hdn m (b + 1) _ _ (by omega) (asc_erase a _) (fun x hx => hl x (List.mem_of_mem_eraseIdx hx)) ?_ (fun hlt => ?_)
    · rw [List.length_eraseIdx, if_pos hi]
      omega
    · rw [← wd_step hb (hd (b + 1) hlt) (by omega)]
      have h1 : r % wd n c b < wd n c b := Nat.mod_lt _ w0
      have h2 : L.getD (r / wd n c b) 0 - r / wd n c b ≤ b := by omega
      have h3 : wd n c b * (L.getD (r / wd n c b) 0 - r / wd n c b) ≤ wd n c b * b := Nat.mul_le_mul_left _ h2
      rw [Nat.mul_add, Nat.mul_one]
      omega
/-- count of lists and depth that go together -/
structure Std (n d c : Nat) : Prop where
  n60 : n ≤ 60
  n1 : 1 ≤ n
  dn : d ≤ n
  c0 : 0 < c
  dv : leastL n d ∣ c
theorem Std.dvd {n d c : Nat} (h : Std n d c) (b : Nat) (hb : b < d) : n * C (n - 1) b ∣ c := Nat.dvd_trans (leastL_dvd h.dn b hb) h.dv
def path (n d c k : Nat) : List Nat × Nat := fol n c (List.range' 0 d) (List.range' 0 n) k
theorem asc_range' : ∀ (m b : Nat), Asc (List.range' b m) := fun m b => List.pairwise_lt_range'
theorem mem_range0 {n x : Nat} : x ∈ List.range' 0 n ↔ x < n := by
  rw [List.mem_range']
  exact ⟨fun ⟨i, h1, h2⟩ => by omega, fun h => ⟨x, h, by omega⟩⟩
theorem path_ok {n d c k : Nat} (h : Std n d c) (hk : k < c) : FolOk n c (List.range' 0 d) (List.range' 0 n) k :=
  folOk_path h.dvd h.c0 h.dn d 0 _ _ (by omega) (asc_range' n 0) (fun x hx => mem_range0.mp hx) (by rw [List.length_range']; omega) fun hd => by
    rw [Nat.sub_zero, wd_zero (h.dvd 0 hd)]
    exact hk
theorem fol_mem {n c : Nat} : ∀ {ss L : List Nat} {r : Nat}, FolOk n c ss L r → ∀ x ∈ (fol n c ss L r).1, x ∈ L
  | [], _, _, _, x, hx => by cases hx
  | s :: ss, L, r, ok, x, hx => by
    rw [fol_cons] at hx
    obtain ⟨_, h2, _, ok2⟩ := ok
    rcases List.mem_cons.mp hx with rfl | hx
    · exact List.mem_of_getElem? (getD_of h2)
    · exact List.mem_of_mem_eraseIdx (fol_mem ok2 x hx)
theorem nodup_inj {L : List Nat} (hn : L.Nodup) {i j x : Nat} (h1 : L[i]? = some x) (h2 : L[j]? = some x) : i = j := by
  obtain ⟨a1, a2⟩ := List.getElem?_eq_some_iff.mp h1
  obtain ⟨b1, b2⟩ := List.getElem?_eq_some_iff.mp h2
  rcases Nat.lt_trichotomy i j with c | c | c
  · exact absurd (a2.trans b2.symm) (List.pairwise_iff_getElem.mp hn i j a1 b1 c)
  · exact c
  · exact absurd (b2.trans a2.symm) (List.pairwise_iff_getElem.mp hn j i b1 a1 c)
theorem not_mem_erase {L : List Nat} {i x : Nat} (hn : L.Nodup) (h : L[i]? = some x) : x ∉ L.eraseIdx i := by
  intro hm
  obtain ⟨k, hk⟩ := List.getElem?_of_mem hm
  rw [List.getElem?_eraseIdx] at hk
  split at hk
  · have := nodup_inj hn hk h
    omega
  · have := nodup_inj hn hk h
    omega
theorem fol_nodup {n c : Nat} : ∀ {ss L : List Nat} {r : Nat}, FolOk n c ss L r → L.Nodup → (fol n c ss L r).1.Nodup
  | [], _, _, _, _ => List.nodup_nil
  | s :: ss, L, r, ok, hn => by
    rw [fol_cons]
    obtain ⟨_, h2, _, ok2⟩ := ok
    refine List.nodup_cons.mpr ⟨fun hx => not_mem_erase hn (getD_of h2) (fol_mem ok2 _ hx), fol_nodup ok2 (hn.sublist (List.eraseIdx_sublist _ _))⟩
theorem asc_nodup {L : List Nat} (h : Asc L) : L.Nodup := h.imp fun z => Nat.ne_of_lt z
theorem path_nodup {n d c k : Nat} (h : Std n d c) (hk : k < c) : (path n d c k).1.Nodup := fol_nodup (path_ok h hk) (asc_nodup (asc_range' n 0))
theorem path_lt {n d c k : Nat} (h : Std n d c) (hk : k < c) : ∀ x ∈ (path n d c k).1, x < n := fun x hx => mem_range0.mp (fol_mem (path_ok h hk) x hx)
theorem path_len (n d c k : Nat) : (path n d c k).1.length = d := by
  unfold path
  rw [fol_len, List.length_range']
theorem fol_rest {n c d : Nat} (hd : ∀ b, b < d → n * C (n - 1) b ∣ c) (hc : 0 < c) (hdn : d ≤ n) : ∀ (m b : Nat) (L : List Nat) (r : Nat), b + m = d → Asc L → (∀ x ∈ L, x < n) → L.length = n - b → (b < d → r < wd n c b * (n - b)) → r < c → (fol n c (List.range' b m) L r).2 < c
  | 0, _, _, _, _, _, _, _, _, h => h
  | m + 1, b, L, r, e, a, hl, hlen, hr, h => by
    have hb := hd b (by omega)
    have w0 := wd_pos hb hc
    have hr2 := hr (by omega)
    have hi : r / wd n c b < L.length := by
      rw [hlen]
      exact Nat.div_lt_of_lt_mul hr2
    have hx := getD_of hi
    have g1 := asc_ge a hx
    have g2 := asc_le a hl hx
    have h1 : r % wd n c b < wd n c b := Nat.mod_lt _ w0
    have h2 : L.getD (r / wd n c b) 0 - r / wd n c b ≤ b := by omega
    have h3 : wd n c b * (L.getD (r / wd n c b) 0 - r / wd n c b) ≤ wd n c b * b := Nat.mul_le_mul_left _ h2
    have h4 : wd n c b * (L.getD (r / wd n c b) 0 - r / wd n c b) + r % wd n c b < wd n c b * (b + 1) := by
      rw [Nat.mul_add, Nat.mul_one]
      omega
    have h5 : wd n c b * (b + 1) ≤ c := by
      have p : 0 < C (n - 1) b := C_pos _ _ (by omega)
      have p2 : b + 1 ≤ n * C (n - 1) b := Nat.le_trans (show b + 1 ≤ n * 1 by omega) (Nat.mul_le_mul_left n p)
      have := Nat.mul_le_mul_left (wd n c b) p2
      rw [wd_eq hb] at this
      exact this
    rw [List.range'_succ, fol_cons]
    refine fol_rest hd hc hdn m (b + 1) _ _ (by omega) (asc_erase a _) (fun x hx => hl x (List.mem_of_mem_eraseIdx hx)) ?_ (fun hlt => ?_) (by omega)
    · rw [List.length_eraseIdx, if_pos hi]
      omega
    · rw [← wd_step hb (hd (b + 1) hlt) (by omega)]
      exact h4
theorem path_rest {n d c k : Nat} (h : Std n d c) (hk : k < c) : (path n d c k).2 < c :=
  fol_rest h.dvd h.c0 h.dn d 0 _ _ (by omega) (asc_range' n 0) (fun x hx => mem_range0.mp hx) (by rw [List.length_range']; omega) (fun hd => by
    rw [Nat.sub_zero, wd_zero (h.dvd 0 hd)]
    exact hk) hk
theorem asc_unique {L M : List Nat} (a : Asc L) (b : Asc M) (p : L.Perm M) : L = M :=
  List.Perm.eq_of_pairwise (le := (· ≤ ·)) (fun a b _ _ h1 h2 => Nat.le_antisymm h1 h2) (a.imp fun z => Nat.le_of_lt z) (b.imp fun z => Nat.le_of_lt z) p
theorem std_of {n d : Nat} (h6 : n ≤ 60) (h1 : 1 ≤ n) (hd : d ≤ n) (q : Nat) (hq : 0 < q) : Std n d (leastL n d * q) := ⟨h6, h1, hd, Nat.mul_pos (leastL_pos hd) hq, ⟨q, rfl⟩⟩
/-! what stands outside a set, and the places in it -/
theorem below_at : ∀ {M : List Nat}, Asc M → ∀ {j s : Nat}, M[j]? = some s → (M.filter fun x => decide (x < s)).length = j
  | [], _, _, _, h => by cases h
  | y :: M, a, 0, s, h => by
    obtain rfl : y = s := Option.some.inj h
    rw [List.filter_cons_of_neg (by simp), List.filter_eq_nil_iff.mpr]
    · rfl
    · intro x hx
      have := (List.pairwise_cons.mp a).1 x hx
      simp
      omega
  | y :: M, a, j + 1, s, h => by
    have h1 : M[j]? = some s := h
    have h2 := (List.pairwise_cons.mp a).1 s (List.mem_of_getElem? h1)
    rw [List.filter_cons_of_pos (by simpa using h2)]
    exact congrArg (· + 1) (below_at (List.pairwise_cons.mp a).2 h1)
/-- L: the servers outside I, ascending -/
structure Compl (n : Nat) (I L : List Nat) : Prop where
  aI : Asc I
  aL : Asc L
  bI : ∀ x ∈ I, x < n
  mem : ∀ x, x ∈ L ↔ x < n ∧ x ∉ I
theorem Compl.count {n : Nat} {I L : List Nat} (h : Compl n I L) {i s : Nat} (e : L[i]? = some s) : (I.filter fun x => decide (x < s)).length + i = s := by
  have hs := (h.mem s).mp (List.mem_of_getElem? e)
  have p : ((I.filter fun x => decide (x < s)) ++ (L.filter fun x => decide (x < s))).Perm (List.range' 0 s) := by
    refine (List.perm_ext_iff_of_nodup ?_ (asc_nodup (asc_range' s 0))).mpr fun x => ?_
    · refine List.nodup_append.mpr ⟨(asc_nodup h.aI).filter _, (asc_nodup h.aL).filter _, fun x hx y hy e2 => ?_⟩
      subst e2
      exact ((h.mem x).mp (List.mem_filter.mp hy).1).2 (List.mem_filter.mp hx).1
    · rw [List.mem_append, List.mem_filter, List.mem_filter, mem_range0, h.mem]
      simp only [decide_eq_true_eq]
      constructor
      · rintro (⟨_, h⟩ | ⟨_, h⟩) <;> exact h
      · intro hx
        by_cases c : x ∈ I
        · exact .inl ⟨c, hx⟩
        · exact .inr ⟨⟨by omega, c⟩, hx⟩
  have l := p.length_eq
  rw [List.length_append, below_at h.aL e, List.length_range'] at l
  exact l
theorem Compl.start (n : Nat) : Compl n [] (List.range' 0 n) := ⟨List.Pairwise.nil, asc_range' n 0, fun x hx => absurd hx List.not_mem_nil, fun x => by rw [mem_range0]; simp⟩
theorem Compl.next {n : Nat} {I L I' : List Nat} (h : Compl n I L) {i s : Nat} (e : L[i]? = some s) (hp : I'.Perm (I ++ [s])) (ha : Asc I') : Compl n I' (L.eraseIdx i) := by
  have hs := (h.mem s).mp (List.mem_of_getElem? e)
  refine ⟨ha, asc_erase h.aL i, fun x hx => ?_, fun x => ?_⟩
  · rcases List.mem_append.mp (hp.mem_iff.mp hx) with hx | hx
    · exact h.bI x hx
    · rw [List.mem_singleton.mp hx]
      exact hs.1
  · constructor
    · intro hx
      have h1 := (h.mem x).mp (List.mem_of_mem_eraseIdx hx)
      refine ⟨h1.1, fun hx2 => ?_⟩
      rcases List.mem_append.mp (hp.mem_iff.mp hx2) with z | z
      · exact h1.2 z
      · rw [List.mem_singleton.mp z] at hx
        exact not_mem_erase (asc_nodup h.aL) e hx
    · rintro ⟨h1, h2⟩
      have h3 : x ∉ I := fun z => h2 (hp.mem_iff.mpr (List.mem_append_left _ z))
      have h4 : x ≠ s := fun z => h2 (hp.mem_iff.mpr (List.mem_append_right _ (by rw [z]; exact List.mem_singleton_self s)))
      obtain ⟨k, hk⟩ := List.getElem?_of_mem ((h.mem x).mpr ⟨h1, h3⟩)
      have hki : k ≠ i := fun z => by
        rw [z, e] at hk
        exact h4 (Option.some.inj hk).symm
      rcases Nat.lt_or_gt_of_ne hki with hlt | hgt
      · exact List.mem_of_getElem? (i := k) (by rw [List.getElem?_eraseIdx, if_pos hlt]; exact hk)
      · exact List.mem_of_getElem? (i := k - 1) (by rw [List.getElem?_eraseIdx, if_neg (by omega), show k - 1 + 1 = k by omega]; exact hk)
/-- the place of the new one -/
theorem Compl.index {n : Nat} {I L I' : List Nat} (h : Compl n I L) {i j s : Nat} (e : L[i]? = some s) (hp : I'.Perm (I ++ [s])) (ha : Asc I') (hj : I'[j]? = some s) : j + i = s := by
  have h1 := h.count e
  have h2 := below_at ha hj
  have h3 := (hp.filter fun x => decide (x < s)).length_eq
  rw [List.filter_append, List.length_append] at h3
  have h4 : (List.filter (fun x => decide (x < s)) [s]).length = 0 := by
    rw [List.filter_cons_of_neg (by simp)]
    rfl
  omega
theorem Compl.free {n : Nat} {I L : List Nat} (h : Compl n I L) : (List.range' 0 n).filter (fun x => !decide (x ∈ I)) = L := by
  have a1 : Asc ((List.range' 0 n).filter (fun x => !decide (x ∈ I))) := (asc_range' n 0).filter _
  refine List.Perm.eq_of_pairwise (le := (· ≤ ·)) (fun a b _ _ h1 h2 => Nat.le_antisymm h1 h2) (a1.imp fun z => Nat.le_of_lt z) (h.aL.imp fun z => Nat.le_of_lt z) ?_
  refine (List.perm_ext_iff_of_nodup (asc_nodup a1) (asc_nodup h.aL)).mpr fun x => ?_
  rw [List.mem_filter, mem_range0, h.mem]
  simp
end Ef
namespace Ef
/-! ### the sets of a size among ascending servers -/
def combs : List Nat → Nat → List (List Nat)
  | _, 0 => [[]]
  | [], _ + 1 => []
  | x :: r, k + 1 => (combs r k).map (x :: ·) ++ combs r (k + 1)
theorem combs_zero (l : List Nat) : combs l 0 = [[]] := by cases l <;> rfl
theorem combs_short : ∀ (l : List Nat) (k : Nat), l.length < k → combs l k = []
  | _, 0, h => absurd h (Nat.not_lt_zero _)
  | [], k + 1, _ => rfl
  | x :: r, k + 1, h => by
    have h2 : r.length < k := by
      simp only [List.length_cons] at h
      omega
    show (combs r k).map _ ++ combs r (k + 1) = []
    rw [combs_short r k h2, combs_short r (k + 1) (by omega)]
    rfl
theorem combs_good : ∀ (l : List Nat) (k : Nat), ∀ c ∈ combs l k, c.length = k ∧ c.Sublist l
  | l, 0, c, h => by
    rw [combs_zero] at h
    rw [List.mem_singleton.mp h]
    exact ⟨rfl, List.nil_sublist _⟩
  | [], k + 1, c, h => by cases h
  | x :: r, k + 1, c, h => by
    rcases List.mem_append.mp h with h | h
    · obtain ⟨d, hd, rfl⟩ := List.mem_map.mp h
      obtain ⟨h1, h2⟩ := combs_good r k d hd
      exact ⟨by rw [List.length_cons, h1], h2.cons_cons x⟩
    · obtain ⟨h1, h2⟩ := combs_good r (k + 1) c h
      exact ⟨h1, h2.cons x⟩
theorem combs_ne : ∀ (l : List Nat) (k : Nat), k ≤ l.length → combs l k ≠ []
  | l, 0, _ => by rw [combs_zero]; simp
  | [], k + 1, h => by simp at h
  | x :: r, k + 1, h => by
    have h2 : k ≤ r.length := by
      simp only [List.length_cons] at h
      omega
    show (combs r k).map _ ++ combs r (k + 1) ≠ []
    intro e
    have := (List.append_eq_nil_iff.mp e).1
    exact combs_ne r k h2 (List.map_eq_nil_iff.mp this)
theorem combs_mem : ∀ (l c : List Nat), c.Sublist l → c ∈ combs l c.length
  | l, [], _ => by
    show [] ∈ combs l 0
    rw [combs_zero]
    exact List.mem_singleton.mpr rfl
  | [], _ :: _, h => by cases h
  | x :: r, y :: c, h => by
    show y :: c ∈ (combs r c.length).map (x :: ·) ++ combs r (c.length + 1)
    cases h with
    | cons _ h => exact List.mem_append_right _ (combs_mem r (y :: c) h)
    | cons_cons _ h => exact List.mem_append_left _ (List.mem_map.mpr ⟨c, combs_mem r c h, rfl⟩)
/-- by the place of the first one -/
theorem combs_from (l : List Nat) (m : Nat) : ∀ (d s : Nat), l.length + 1 ≤ s + d + (m + 1) → s + d + (m + 1) ≤ l.length + 1 ∨ d = 0 → combs (l.drop s) (m + 1) = (List.range' s d).flatMap fun i => (combs (l.drop (i + 1)) m).map (l.getD i 0 :: ·)
  | 0, s, h1, _ => by
    rw [combs_short _ _ (by rw [List.length_drop]; omega)]
    rfl
  | d + 1, s, h1, h2 => by
    have hs : s < l.length := by omega
    rw [List.drop_eq_getElem_cons hs]
    show (combs (l.drop (s + 1)) m).map _ ++ combs (l.drop (s + 1)) (m + 1) = _
    rw [combs_from l m d (s + 1) (by omega) (by omega), List.range'_succ, List.flatMap_cons]
    congr 2
    funext c
    rw [List.getD_eq_getElem?_getD, List.getElem?_eq_getElem hs]
    rfl
/-- one server more, in the order of the law -/
def moreC (l : List Nat) (c : List Nat) : List (List Nat) := (l.filter fun y => decide (c = [] ∨ c.getLastD 0 < y)).map fun y => c ++ [y]
theorem last_cons (x : Nat) (c : List Nat) (h : c ≠ []) : (x :: c).getLastD 0 = c.getLastD 0 := by
  cases c with
  | nil => exact absurd rfl h
  | cons a r => rfl
theorem last_mem (c : List Nat) (h : c ≠ []) : c.getLastD 0 ∈ c := by
  cases c with
  | nil => exact absurd rfl h
  | cons a r =>
    have e : (a :: r).getLastD 0 = (a :: r).getLast h := by
      rw [List.getLastD_cons, List.getLast_eq_getLastD]
    rw [e]
    exact List.getLast_mem h
theorem flat_congr {α β : Type} {f g : α → List β} : ∀ {l : List α}, (∀ a ∈ l, f a = g a) → l.flatMap f = l.flatMap g
  | [], _ => rfl
  | a :: l, h => by rw [List.flatMap_cons, List.flatMap_cons, h a List.mem_cons_self, flat_congr fun b hb => h b (List.mem_cons_of_mem _ hb)]
theorem combs_more : ∀ (l : List Nat) (t : Nat), Asc l → (combs l t).flatMap (moreC l) = combs l (t + 1)
  | [], 0, _ => rfl
  | [], t + 1, _ => rfl
  | x :: r, 0, h => by
    obtain ⟨h1, h2⟩ := List.pairwise_cons.mp h
    have ih := combs_more r 0 h2
    rw [combs_zero] at ih ⊢
    rw [List.flatMap_cons, List.flatMap_nil, List.append_nil] at ih ⊢
    show _ = (combs r 0).map (x :: ·) ++ combs r 1
    rw [← ih, combs_zero]
    unfold moreC
    rw [List.filter_cons_of_pos (by simp)]
    rfl
  | x :: r, t + 1, h => by
    obtain ⟨h1, h2⟩ := List.pairwise_cons.mp h
    show ((combs r t).map (x :: ·) ++ combs r (t + 1)).flatMap (moreC (x :: r)) = (combs r (t + 1)).map (x :: ·) ++ combs r (t + 2)
    rw [List.flatMap_append]
    have e2 : (combs r (t + 1)).flatMap (moreC (x :: r)) = combs r (t + 2) := by
      rw [← combs_more r (t + 1) h2]
      refine flat_congr fun c hc => ?_
      obtain ⟨g1, g2⟩ := combs_good r (t + 1) c hc
      have ne : c ≠ [] := fun e => by rw [e] at g1; cases g1
      have hl := h1 _ (g2.subset (last_mem c ne))
      unfold moreC
      rw [List.filter_cons_of_neg]
      simp only [decide_eq_true_eq, not_or]
      exact ⟨ne, by omega⟩
    have e1 : ((combs r t).map (x :: ·)).flatMap (moreC (x :: r)) = (combs r (t + 1)).map (x :: ·) := by
      rw [← combs_more r t h2, List.flatMap_map, List.map_flatMap]
      refine flat_congr fun c hc => ?_
      obtain ⟨g1, g2⟩ := combs_good r t c hc
      unfold moreC
      rw [List.map_map]
      by_cases ne : c = []
      · subst ne
        rw [List.filter_cons_of_neg (by simp)]
        have e : (r.filter fun y => decide (([x] : List Nat) = [] ∨ ([x] : List Nat).getLastD 0 < y)) = r.filter fun y => decide (([] : List Nat) = [] ∨ ([] : List Nat).getLastD 0 < y) := by
          refine List.filter_congr fun y hy => ?_
          have := h1 y hy
          simp [this]
        rw [e]
        rfl
      · have hl := h1 _ (g2.subset (last_mem c ne))
        rw [List.filter_cons_of_neg (by
          simp only [decide_eq_true_eq, not_or]
          exact ⟨by simp, by rw [last_cons x c ne]; omega⟩)]
        have e : (r.filter fun y => decide (x :: c = [] ∨ (x :: c).getLastD 0 < y)) = r.filter fun y => decide (c = [] ∨ c.getLastD 0 < y) := by
          refine List.filter_congr fun y hy => ?_
          rw [last_cons x c ne]
          simp [ne]
        rw [e]
        rfl
    rw [e1, e2]
/-! the program's beginnings -/
def stepB (l : List Nat) (m : Nat) (b : List Nat × Nat) : List (List Nat × Nat) := (List.range' b.2 (l.length + 1 - m - b.2)).map fun i => (b.1 ++ [l.getD i 0], i + 1)
def begB (l : List Nat) (k : Nat) : Nat → List (List Nat × Nat)
  | 0 => [([], 0)]
  | t + 1 => (begB l k t).flatMap (stepB l (k - t))
def restB (l : List Nat) (m : Nat) (b : List Nat × Nat) : List (List Nat) := (combs (l.drop b.2) m).map (b.1 ++ ·)
theorem step_rest (l : List Nat) (m : Nat) (b : List Nat × Nat) : (stepB l (m + 1) b).flatMap (restB l m) = restB l (m + 1) b := by
  unfold stepB restB
  rw [combs_from l m (l.length + 1 - (m + 1) - b.2) b.2 (by omega) (by omega), List.flatMap_map, List.map_flatMap]
  refine flat_congr fun i _ => ?_
  rw [List.map_map]
  refine List.map_congr_left fun c _ => ?_
  show b.1 ++ [l.getD i 0] ++ c = b.1 ++ (l.getD i 0 :: c)
  rw [List.append_assoc]
  rfl
theorem flat_flat {α β γ : Type} (f : α → List β) (g : β → List γ) : ∀ l : List α, (l.flatMap f).flatMap g = l.flatMap fun a => (f a).flatMap g
  | [] => rfl
  | a :: l => by rw [List.flatMap_cons, List.flatMap_append, List.flatMap_cons, flat_flat f g l]
theorem beg_rest (l : List Nat) (k : Nat) : ∀ t, t ≤ k → (begB l k t).flatMap (restB l (k - t)) = combs l k
  | 0, _ => by
    show restB l k ([], 0) ++ [] = _
    unfold restB
    rw [List.append_nil]
    show (combs l k).map _ = _
    exact List.map_id _
  | t + 1, h => by
    rw [← beg_rest l k t (by omega)]
    show ((begB l k t).flatMap (stepB l (k - t))).flatMap _ = _
    rw [flat_flat]
    refine flat_congr fun b _ => ?_
    have e : k - t = (k - (t + 1)) + 1 := by omega
    rw [e]
    exact step_rest l _ b
theorem map_flat {α β : Type} (f : α → β) : ∀ l : List α, l.flatMap (fun a => [f a]) = l.map f
  | [] => rfl
  | a :: l => by rw [List.flatMap_cons, map_flat f l]; rfl
theorem beg_end (l : List Nat) (k : Nat) : (begB l k k).map (·.1) = combs l k := by
  rw [← beg_rest l k k (Nat.le_refl _), ← map_flat]
  refine flat_congr fun b _ => ?_
  unfold restB
  rw [Nat.sub_self, combs_zero]
  show _ = [b.1 ++ []]
  rw [List.append_nil]
theorem beg_fit (l : List Nat) (k : Nat) : ∀ t, t < k → ∀ b ∈ begB l k (t + 1), b.2 + (k - (t + 1)) ≤ l.length := fun t ht b hb => by
  obtain ⟨a, _, hb⟩ := List.mem_flatMap.mp hb
  obtain ⟨i, hi, rfl⟩ := List.mem_map.mp hb
  rw [List.mem_range'_1] at hi
  show i + 1 + _ ≤ _
  omega
theorem len_flat {α β : Type} (f : α → List β) : ∀ l : List α, (∀ a ∈ l, f a ≠ []) → l.length ≤ (l.flatMap f).length
  | [], _ => Nat.zero_le _
  | a :: l, h => by
    rw [List.flatMap_cons, List.length_append, List.length_cons]
    have h1 := len_flat f l fun b hb => h b (List.mem_cons_of_mem _ hb)
    have h2 := List.length_pos_iff.mpr (h a List.mem_cons_self)
    omega
theorem beg_len (l : List Nat) (k : Nat) : ∀ t, t ≤ k → (begB l k t).length ≤ (combs l k).length + 1
  | 0, _ => by show 1 ≤ _; omega
  | t + 1, h => by
    rw [← beg_rest l k (t + 1) h]
    refine Nat.le_succ_of_le (len_flat _ _ fun b hb => ?_)
    have := beg_fit l k t h b hb
    unfold restB
    intro e
    exact combs_ne _ _ (by rw [List.length_drop]; omega) (List.map_eq_nil_iff.mp e)
theorem beg_good (l : List Nat) (k : Nat) : ∀ t, ∀ b ∈ begB l k t, b.1.length = t ∧ b.2 ≤ l.length + 1
  | 0, b, hb => by
    rw [List.mem_singleton.mp hb]
    exact ⟨rfl, Nat.zero_le _⟩
  | t + 1, b, hb => by
    obtain ⟨a, ha, hb⟩ := List.mem_flatMap.mp hb
    obtain ⟨i, hi, rfl⟩ := List.mem_map.mp hb
    rw [List.mem_range'_1] at hi
    obtain ⟨h1, h2⟩ := beg_good l k t a ha
    exact ⟨by show (a.1 ++ _).length = _; rw [List.length_append, h1]; rfl, by show i + 1 ≤ _; omega⟩
theorem fm_le {α β : Type} (f : α → List β) : ∀ (l : List α) (i : Nat), ((l.take i).flatMap f).length ≤ (l.flatMap f).length
  | [], i => by rw [List.take_nil]; exact Nat.le_refl _
  | a :: l, 0 => Nat.zero_le _
  | a :: l, i + 1 => by
    rw [List.take_succ_cons, List.flatMap_cons, List.flatMap_cons, List.length_append, List.length_append]
    have := fm_le f l i
    omega
theorem fm_step {α β : Type} {f : α → List β} {l : List α} {i : Nat} {a : α} (h : l[i]? = some a) : (l.take (i + 1)).flatMap f = (l.take i).flatMap f ++ f a := by
  rw [List.take_add_one, h, List.flatMap_append]
  show _ ++ [a].flatMap f = _
  rw [List.flatMap_cons, List.flatMap_nil, List.append_nil]
theorem take_snoc {α : Type} {l : List α} {i : Nat} {a : α} (h : l[i]? = some a) : l.take (i + 1) = l.take i ++ [a] := by
  rw [List.take_add_one, h]
  rfl
theorem combsLen : ∀ (l : List Nat) (k : Nat), (combs l k).length = C l.length k
  | l, 0 => by rw [combs_zero]; cases l <;> rfl
  | [], k + 1 => rfl
  | x :: r, k + 1 => by
    show ((combs r k).map _ ++ combs r (k + 1)).length = C (r.length + 1) (k + 1)
    rw [List.length_append, List.length_map, combsLen r k, combsLen r (k + 1)]
    rfl
theorem combsNodup : ∀ (l : List Nat) (k : Nat), l.Nodup → (combs l k).Nodup
  | l, 0, _ => by
    rw [combs_zero]
    exact List.nodup_cons.mpr ⟨List.not_mem_nil, List.nodup_nil⟩
  | [], k + 1, _ => List.nodup_nil
  | x :: r, k + 1, h => by
    obtain ⟨h1, h2⟩ := List.nodup_cons.mp h
    refine List.nodup_append.mpr ⟨?_, combsNodup r (k + 1) h2, fun c hc d hd e => ?_⟩
    · refine List.Pairwise.map _ (fun a b hab z => hab ?_) (combsNodup r k h2)
      exact (List.cons.inj z).2
    · obtain ⟨c', _, rfl⟩ := List.mem_map.mp hc
      obtain ⟨_, g⟩ := combs_good r (k + 1) d hd
      rw [← e] at g
      exact h1 (g.subset List.mem_cons_self)
theorem ascSub : ∀ {b a : List Nat}, Asc a → Asc b → (∀ x ∈ a, x ∈ b) → a.Sublist b
  | [], [], _, _, _ => List.Sublist.slnil
  | [], x :: a, _, _, h => absurd (h x List.mem_cons_self) List.not_mem_nil
  | y :: b, [], _, _, _ => List.nil_sublist _
  | y :: b, x :: a, ha, hb, h => by
    obtain ⟨a1, a2⟩ := List.pairwise_cons.mp ha
    obtain ⟨b1, b2⟩ := List.pairwise_cons.mp hb
    by_cases e : x = y
    · subst e
      refine (ascSub a2 b2 fun z hz => ?_).cons_cons x
      rcases List.mem_cons.mp (h z (List.mem_cons_of_mem _ hz)) with rfl | h2
      · have := a1 z hz
        omega
      · exact h2
    · refine (ascSub (a := x :: a) ha b2 fun z hz => ?_).cons y
      rcases List.mem_cons.mp (h z hz) with rfl | h2
      · rcases List.mem_cons.mp hz with rfl | hz
        · exact absurd rfl e
        · have h3 := a1 z hz
          rcases List.mem_cons.mp (h x List.mem_cons_self) with h4 | h4
          · exact absurd h4 e
          · have := b1 x h4
            omega
      · exact h2
/-- all (set, server) with the server outside -/
def without (n x : Nat) : List Nat := (List.range n).filter fun y => !decide (y = x)
def allE (n sz : Nat) : List (List Nat × Nat) := (List.range n).flatMap fun x => (combs (without n x) sz).map fun c => (c, x)
theorem without_len {n x : Nat} (h : x < n) : (without n x).length = n - 1 := by
  unfold without
  have hp : ∀ l : List Nat, (l.filter fun y => !decide (y = x)).length + (l.filter fun y => decide (y = x)).length = l.length := by
    intro l
    induction l with
    | nil => rfl
    | cons a l ih =>
      by_cases e : a = x
      · rw [List.filter_cons_of_neg (by simpa using e), List.filter_cons_of_pos (by simpa using e), List.length_cons, List.length_cons]
        omega
      · rw [List.filter_cons_of_pos (by simpa using e), List.filter_cons_of_neg (by simpa using e), List.length_cons, List.length_cons]
        omega
  replace hp := hp (List.range n)
  rw [List.length_range] at hp
  have h1 : ((List.range n).filter fun y => decide (y = x)).length = 1 := by
    rw [← List.countP_eq_length_filter]
    have e : (List.range n).countP (fun y => decide (y = x)) = (List.range n).count x := by
      unfold List.count
      refine List.countP_congr fun y _ => ?_
      simp
    rw [e]
    exact List.Nodup.count List.nodup_range |>.trans (if_pos (List.mem_range.mpr h))
  omega
theorem without_asc (n x : Nat) : Asc (without n x) := List.Pairwise.filter _ (by
  have := List.pairwise_lt_range (n := n)
  exact this)
theorem flat_const {α β : Type} (f : α → List β) (k : Nat) : ∀ l : List α, (∀ a ∈ l, (f a).length = k) → (l.flatMap f).length = l.length * k
  | [], _ => by simp
  | a :: l, h => by
    rw [List.flatMap_cons, List.length_append, h a List.mem_cons_self, flat_const f k l fun b hb => h b (List.mem_cons_of_mem _ hb), List.length_cons, Nat.succ_mul]
    omega
theorem allE_len (n sz : Nat) : (allE n sz).length = n * C (n - 1) sz := by
  unfold allE
  rw [flat_const _ (C (n - 1) sz) _ fun x hx => ?_, List.length_range]
  rw [List.length_map, combsLen, without_len (List.mem_range.mp hx)]
theorem allE_mem {n sz x : Nat} {c : List Nat} (hx : x < n) (hl : c.length = sz) (ha : Asc c) (hc : ∀ y ∈ c, y < n ∧ y ≠ x) : (c, x) ∈ allE n sz := by
  refine List.mem_flatMap.mpr ⟨x, List.mem_range.mpr hx, List.mem_map.mpr ⟨c, ?_, rfl⟩⟩
  have := combs_mem (without n x) c (ascSub ha (without_asc n x) fun y hy => List.mem_filter.mpr ⟨List.mem_range.mpr (hc y hy).1, by simpa using (hc y hy).2⟩)
  rw [hl] at this
  exact this
theorem subG_len {α : Type} [DecidableEq α] : ∀ {ks ns : List α}, ks.Nodup → (∀ k ∈ ks, k ∈ ns) → ks.length ≤ ns.length
  | [], _, _, _ => Nat.zero_le _
  | k :: r, ns, h, hs => by
    have hk := hs k List.mem_cons_self
    have h1 := subG_len (ks := r) (ns := ns.erase k) (List.nodup_cons.mp h).2 fun x hx => (List.mem_erase_of_ne (fun e : x = k => (List.nodup_cons.mp h).1 (e ▸ hx))).mpr (hs x (List.mem_cons_of_mem _ hx))
    have h2 := List.length_erase_of_mem hk
    have h3 := List.length_pos_of_mem hk
    show r.length + 1 ≤ ns.length
    omega
/-! sorted -/
def srt (l : List Nat) : List Nat := l.mergeSort fun a b => decide (a ≤ b)
theorem srt_perm (l : List Nat) : (srt l).Perm l := List.mergeSort_perm l _
theorem srt_le (l : List Nat) : (srt l).Pairwise (· ≤ ·) := (List.pairwise_mergeSort (le := fun a b : Nat => decide (a ≤ b)) (fun a b c h1 h2 => by simp at *; omega) (fun a b => by simp; omega) l).imp fun h => of_decide_eq_true h
theorem srt_asc {l : List Nat} (h : l.Nodup) : Asc (srt l) := ((srt_le l).and ((srt_perm l).nodup_iff.mpr h)).imp fun ⟨a, b⟩ => by omega
theorem srt_of {l m : List Nat} (p : m.Perm l) (h : m.Pairwise (· ≤ ·)) : m = srt l :=
  List.Perm.eq_of_pairwise (le := fun a b : Nat => a ≤ b) (fun a b _ _ h1 h2 => Nat.le_antisymm h1 h2) h (srt_le l) (p.trans (srt_perm l).symm)
end Ef
namespace Ef
/-! ### the least numbers once more: common multiples of n, n - 1, .. -/
def leastP (n : Nat) : Nat → Nat
  | 0 => 1
  | d + 1 => stepL (leastP n d) (n - d)
theorem parts_ok : rowsOk (fun n d a => Nat.beq (leastP n d) a) 60 1 row0 = true := by decide +kernel
theorem leastP_eq {n d : Nat} (h1 : 1 ≤ n) (h6 : n ≤ 60) (hd : d ≤ n) : leastP n d = leastL n d :=
  Nat.eq_of_beq_eq_true (rows_all 60 1 row0 row0_is (by decide) parts_ok n h1 (by omega) h6 d hd)
theorem stepL_lcm (a b : Nat) : stepL a b = Nat.lcm a b := by
  unfold stepL Nat.lcm
  exact Nat.div_mul_right_comm (Nat.gcd_dvd_left a b) b
theorem stepL_dvd (a b c : Nat) : stepL a b ∣ c ↔ a ∣ c ∧ b ∣ c := by
  rw [stepL_lcm]
  exact ⟨fun h => ⟨Nat.dvd_trans (Nat.dvd_lcm_left a b) h, Nat.dvd_trans (Nat.dvd_lcm_right a b) h⟩, fun h => Nat.lcm_dvd h.1 h.2⟩
theorem leastP_dvd (n c : Nat) : ∀ d, leastP n d ∣ c ↔ ∀ i, i < d → (n - i) ∣ c
  | 0 => ⟨fun _ i h => absurd h (Nat.not_lt_zero i), fun _ => Nat.one_dvd c⟩
  | d + 1 => by
    show stepL (leastP n d) (n - d) ∣ c ↔ _
    rw [stepL_dvd, leastP_dvd n c d]
    constructor
    · intro h i hi
      by_cases e : i = d
      · rw [e]
        exact h.2
      · exact h.1 i (by omega)
    · intro h
      exact ⟨fun i hi => h i (by omega), h d (by omega)⟩
/-- a number is a multiple of the least one exactly if n, n - 1, .. divide it -/
theorem least_parts {n d : Nat} (h1 : 1 ≤ n) (h6 : n ≤ 60) (hd : d ≤ n) (c : Nat) : leastL n d ∣ c ↔ ∀ i, i < d → (n - i) ∣ c := by
  rw [← leastP_eq h1 h6 hd]
  exact leastP_dvd n c d
def partsV (n d : Nat) : List Nat := (List.range d).map fun i => n - i
theorem parts_at {n d i : Nat} (h : i < d) : (partsV n d)[i]? = some (n - i) := by
  unfold partsV
  rw [List.getElem?_map, List.getElem?_range h]
  rfl
theorem parts_len (n d : Nat) : (partsV n d).length = d := by
  unfold partsV
  rw [List.length_map, List.length_range]
def wdsL (n c d : Nat) : List Nat := (List.range d).map (wd n c)
theorem wds_step (n c d : Nat) : wdsL n c (d + 1) = wdsL n c d ++ [wd n c d] := by
  unfold wdsL
  rw [List.range_succ, List.map_append]
  rfl
theorem wds_len (n c d : Nat) : (wdsL n c d).length = d := by
  unfold wdsL
  rw [List.length_map, List.length_range]
/-- one step of the edges -/
theorem edge_step {n s : Nat} (h : s < n) : n * C (n - 1) s * (n - 1 - s) / (s + 1) = n * C (n - 1) (s + 1) := by
  rw [Nat.mul_assoc, ← C_step (n - 1) s (by omega), ← Nat.mul_assoc, Nat.mul_div_cancel _ (Nat.succ_pos s)]
end Ef
namespace Ef
/-! ### from a place back to a number -/
/-- what is left of the servers -/
def folL (n c : Nat) : List Nat → List Nat → Nat → List Nat
  | [], L, _ => L
  | s :: ss, L, r => folL n c ss (L.eraseIdx (r / wd n c s)) (wd n c s * (L.getD (r / wd n c s) 0 - r / wd n c s) + r % wd n c s)
theorem fol_snoc (n c : Nat) (s : Nat) : ∀ (ss L : List Nat) (r : Nat), fol n c (ss ++ [s]) L r =
    ((fol n c ss L r).1 ++ [(folL n c ss L r).getD ((fol n c ss L r).2 / wd n c s) 0],
      wd n c s * ((folL n c ss L r).getD ((fol n c ss L r).2 / wd n c s) 0 - (fol n c ss L r).2 / wd n c s) + (fol n c ss L r).2 % wd n c s)
  | [], L, r => rfl
  | t :: ss, L, r => by
    rw [List.cons_append, fol_cons, fol_snoc n c s ss, fol_cons]
    rfl
theorem folL_snoc (n c : Nat) (s : Nat) : ∀ (ss L : List Nat) (r : Nat), folL n c (ss ++ [s]) L r = (folL n c ss L r).eraseIdx ((fol n c ss L r).2 / wd n c s)
  | [], L, r => rfl
  | t :: ss, L, r => by
    rw [List.cons_append]
    show folL n c (ss ++ [s]) _ _ = _
    rw [folL_snoc n c s ss]
    rfl
theorem wd_back {n c b : Nat} (h : n * C (n - 1) b ∣ c) (hb : b < n) : c / C n (b + 1) = wd n c b * (b + 1) := by
  have e := wd_eq h
  obtain ⟨m, rfl⟩ : ∃ m, n = m + 1 := ⟨n - 1, by omega⟩
  have a := C_absorb m b
  rw [Nat.add_sub_cancel] at e
  rw [← a] at e
  have p := C_pos (m + 1) (b + 1) (by omega)
  generalize wd (m + 1) c b = w at e ⊢
  have e2 : c = w * (b + 1) * C (m + 1) (b + 1) := by
    rw [← e, Nat.mul_comm (C (m + 1) (b + 1)), Nat.mul_assoc]
  rw [e2, Nat.mul_div_cancel _ p]
theorem wd_out {n c b : Nat} (h : n * C (n - 1) b ∣ c) (hb : b < n) : wd n c b * (n - b) * C n b = c := by
  have e := wd_eq h
  obtain ⟨m, rfl⟩ : ∃ m, n = m + 1 := ⟨n - 1, by omega⟩
  have a := C_absorb m b
  have s := C_step (m + 1) b (by omega)
  rw [Nat.add_sub_cancel] at e
  rw [Nat.mul_assoc, Nat.mul_comm (m + 1 - b), ← s, a]
  exact e
theorem erasePerm : ∀ (l : List Nat) (k x : Nat), l[k]? = some x → (x :: l.eraseIdx k).Perm l
  | [], _, _, h => by cases h
  | a :: r, 0, x, h => by
    obtain rfl : a = x := Option.some.inj h
    exact List.Perm.refl _
  | a :: r, k + 1, x, h => (List.Perm.swap a x _).trans ((erasePerm r k x h).cons a)
theorem range'_end (b : Nat) : List.range' 0 (b + 1) = List.range' 0 b ++ [b] := by
  rw [← List.range_eq_range', ← List.range_eq_range', List.range_succ]
theorem rev_range (b : Nat) : (List.range' 0 (b + 1)).reverse = b :: (List.range' 0 b).reverse := by
  rw [range'_end, List.reverse_append]
  rfl
/-- one step back -/
structure Place (n c b : Nat) (ms : List Nat) (r : Nat) : Prop where
  asc : Asc ms
  lt : ∀ x ∈ ms, x < n
  len : ms.length = b
  rest : r < c / C n b
theorem Place.ix {n c b r : Nat} {ms : List Nat} (h : Place n c (b + 1) ms r) (hd : n * C (n - 1) b ∣ c) (hb : b < n) : r / wd n c b < ms.length := by
  have h1 := h.rest
  rw [wd_back hd hb] at h1
  rw [h.len]
  exact Nat.div_lt_of_lt_mul h1
theorem Place.prev {n c b r : Nat} {ms : List Nat} (h : Place n c (b + 1) ms r) (hd : ∀ k, k ≤ b → n * C (n - 1) k ∣ c) (hb : b < n) (hc : 0 < c) :
    Place n c b (ms.eraseIdx (r / wd n c b)) (wd n c b * (ms.getD (r / wd n c b) 0 - r / wd n c b) + r % wd n c b) := by
  have hi := h.ix (hd b (Nat.le_refl _)) hb
  have w0 := wd_pos (hd b (Nat.le_refl _)) hc
  have hx := getD_of hi
  have g1 := asc_ge h.asc hx
  have g2 := asc_le h.asc h.lt hx
  have hl := h.len
  refine ⟨asc_erase h.asc _, fun x hx => h.lt x (List.mem_of_mem_eraseIdx hx), ?_, ?_⟩
  · rw [List.length_eraseIdx, if_pos hi, hl]
    rfl
  · have h1 : r % wd n c b < wd n c b := Nat.mod_lt _ w0
    have h2 : ms.getD (r / wd n c b) 0 - r / wd n c b + 1 ≤ n - b := by omega
    have h3 : wd n c b * (ms.getD (r / wd n c b) 0 - r / wd n c b + 1) ≤ wd n c b * (n - b) := Nat.mul_le_mul_left _ h2
    have h4 : c / C n b = wd n c b * (n - b) := by
      have e := wd_out (hd b (Nat.le_refl _)) hb
      have p := C_pos n b (by omega)
      conv => lhs; rw [← e]
      exact Nat.mul_div_cancel _ p
    rw [h4]
    rw [Nat.mul_add, Nat.mul_one] at h3
    omega
theorem back_ok {n c : Nat} (hc : 0 < c) : ∀ (b : Nat) (ms : List Nat) (r : Nat), b ≤ n → (∀ k, k < b → n * C (n - 1) k ∣ c) → Place n c b ms r → FolOk n c (List.range' 0 b).reverse ms r
  | 0, _, _, _, _, _ => trivial
  | b + 1, ms, r, hb, hd, h => by
    rw [rev_range]
    have hi := h.ix (hd b (by omega)) (by omega)
    exact ⟨wd_pos (hd b (by omega)) hc, hi, asc_ge h.asc (getD_of hi), back_ok hc b _ _ (by omega) (fun k hk => hd k (by omega)) (h.prev (fun k hk => hd k (by omega)) (by omega) hc)⟩
theorem Std.less {n d c : Nat} (h : Std n (d + 1) c) : Std n d c := by
  have hd := h.dn
  exact ⟨h.n60, h.n1, by omega, h.c0, Nat.dvd_trans (stepL_left _ _ (leastL_pos (by omega))) h.dv⟩
/-- the number of the list that has this place -/
def back (n c : Nat) (ms : List Nat) (r : Nat) : Nat := (fol n c (List.range' 0 ms.length).reverse ms r).2
theorem back_fwd {n c : Nat} (hc : 0 < c) : ∀ (b : Nat) (ms : List Nat) (r : Nat), b ≤ n → (∀ k, k < b → n * C (n - 1) k ∣ c) → Place n c b ms r →
    (fol n c (List.range' 0 b).reverse ms r).2 < c ∧
    (fol n c (List.range' 0 b) (List.range' 0 n) (fol n c (List.range' 0 b).reverse ms r).2).1.Perm ms ∧
    (fol n c (List.range' 0 b) (List.range' 0 n) (fol n c (List.range' 0 b).reverse ms r).2).2 = r ∧
    Compl n ms (folL n c (List.range' 0 b) (List.range' 0 n) (fol n c (List.range' 0 b).reverse ms r).2)
  | 0, ms, r, _, _, h => by
    have e : ms = [] := List.length_eq_zero_iff.mp h.len
    have hr := h.rest
    rw [C_zero, Nat.div_one] at hr
    subst e
    exact ⟨hr, List.Perm.refl _, rfl, Compl.start n⟩
  | b + 1, ms, r, hb, hd, h => by
    have hi := h.ix (hd b (by omega)) (by omega)
    have w0 := wd_pos (hd b (by omega)) hc
    have hx := getD_of hi
    have g1 := asc_ge h.asc hx
    have pv := h.prev (fun k hk => hd k (by omega)) (by omega) hc
    obtain ⟨i1, i2, i3, i4⟩ := back_fwd hc b _ _ (by omega) (fun k hk => hd k (by omega)) pv
    rw [rev_range, fol_cons]
    show (fol n c (List.range' 0 b).reverse (ms.eraseIdx (r / wd n c b)) (wd n c b * (ms.getD (r / wd n c b) 0 - r / wd n c b) + r % wd n c b)).2 < c ∧ _
    generalize (fol n c (List.range' 0 b).reverse (ms.eraseIdx (r / wd n c b)) (wd n c b * (ms.getD (r / wd n c b) 0 - r / wd n c b) + r % wd n c b)).2 = k at i1 i2 i3 i4 ⊢
    show k < c ∧ (fol n c (List.range' 0 (b + 1)) (List.range' 0 n) k).1.Perm ms ∧ (fol n c (List.range' 0 (b + 1)) (List.range' 0 n) k).2 = r ∧ Compl n ms (folL n c (List.range' 0 (b + 1)) (List.range' 0 n) k)
    rw [range'_end, fol_snoc, folL_snoc, i3]
    have hm : r % wd n c b < wd n c b := Nat.mod_lt _ w0
    have e1 : (wd n c b * (ms.getD (r / wd n c b) 0 - r / wd n c b) + r % wd n c b) / wd n c b = ms.getD (r / wd n c b) 0 - r / wd n c b := by
      rw [Nat.mul_add_div w0, Nat.div_eq_of_lt hm, Nat.add_zero]
    have e2 : (wd n c b * (ms.getD (r / wd n c b) 0 - r / wd n c b) + r % wd n c b) % wd n c b = r % wd n c b := by
      rw [Nat.mul_add_mod, Nat.mod_mod]
    rw [e1, e2]
    generalize folL n c (List.range' 0 b) (List.range' 0 n) k = L at i4
    have hdm := Nat.div_add_mod r (wd n c b)
    generalize r / wd n c b = i at hi hx g1 pv i1 i2 i3 i4 hdm e1 e2 ⊢
    generalize ms.getD i 0 = x at hx g1 pv i1 i2 i3 i4 e1 e2 ⊢
    have pm : ms.Perm (ms.eraseIdx i ++ [x]) := ((List.perm_append_singleton x _).trans (erasePerm ms i x hx)).symm
    have hmem : x ∈ L := (i4.mem _).mpr ⟨h.lt _ (List.mem_of_getElem? hx), not_mem_erase (asc_nodup h.asc) hx⟩
    obtain ⟨j, hj⟩ := List.getElem?_of_mem hmem
    have hjx := i4.index hj pm h.asc hx
    obtain rfl : x - i = j := by omega
    have ex : L.getD (x - i) 0 = x := by
      have := getD_of (L := L) (i := x - i) (List.getElem?_eq_some_iff.mp hj).1
      rw [hj] at this
      exact (Option.some.inj this).symm
    rw [ex]
    refine ⟨i1, (i2.append_right _).trans pm.symm, ?_, i4.next hj pm h.asc⟩
    show wd n c b * (x - (x - i)) + r % wd n c b = r
    rw [show x - (x - i) = i by omega]
    exact hdm
end Ef
namespace Ef
/-! ### counts by formula -/
def sumTo (g : Nat → Nat) : Nat → Nat
  | 0 => 0
  | n + 1 => sumTo g n + g n
theorem sumTo_congr {g h : Nat → Nat} : ∀ {n : Nat}, (∀ i, i < n → g i = h i) → sumTo g n = sumTo h n
  | 0, _ => rfl
  | n + 1, e => by
    show sumTo g n + g n = sumTo h n + h n
    rw [sumTo_congr (n := n) fun i hi => e i (by omega), e n (by omega)]
theorem sumTo_add (g h : Nat → Nat) : ∀ n : Nat, sumTo (fun i => g i + h i) n = sumTo g n + sumTo h n
  | 0 => rfl
  | n + 1 => by
    show sumTo _ n + (g n + h n) = sumTo g n + g n + (sumTo h n + h n)
    rw [sumTo_add g h n]
    omega
theorem sumTo_mul (k : Nat) (g : Nat → Nat) : ∀ n : Nat, sumTo (fun i => k * g i) n = k * sumTo g n
  | 0 => rfl
  | n + 1 => by
    show sumTo _ n + k * g n = k * (sumTo g n + g n)
    rw [sumTo_mul k g n, Nat.mul_add]
theorem sumTo_zero {g : Nat → Nat} : ∀ {n : Nat}, (∀ i, i < n → g i = 0) → sumTo g n = 0
  | 0, _ => rfl
  | n + 1, e => by
    show sumTo g n + g n = 0
    rw [sumTo_zero (n := n) fun i hi => e i (by omega), e n (by omega)]
theorem sumTo_shift (g : Nat → Nat) : ∀ n : Nat, sumTo g (n + 1) = g 0 + sumTo (fun i => g (i + 1)) n
  | 0 => by
    show 0 + g 0 = g 0 + 0
    omega
  | n + 1 => by
    show sumTo g (n + 1) + g (n + 1) = g 0 + (sumTo (fun i => g (i + 1)) n + g (n + 1))
    rw [sumTo_shift g n]
    omega
theorem sumTo_cut (g : Nat → Nat) (a : Nat) : ∀ b : Nat, sumTo g (a + b) = sumTo g a + sumTo (fun i => g (a + i)) b
  | 0 => rfl
  | b + 1 => by
    show sumTo g (a + b) + g (a + b) = sumTo g a + (sumTo (fun i => g (a + i)) b + g (a + b))
    rw [sumTo_cut g a b]
    omega
theorem edge_alt {n i : Nat} (h : i < n) : C n i * (n - i) = n * C (n - 1) i := by
  obtain ⟨m, rfl⟩ : ∃ m, n = m + 1 := ⟨n - 1, by omega⟩
  have s := C_step (m + 1) i (by omega)
  have a := C_absorb m i
  rw [← s, a, Nat.add_sub_cancel]
theorem edge_alt2 {n i : Nat} (h : i < n) : C n (i + 1) * (i + 1) = n * C (n - 1) i := by
  obtain ⟨m, rfl⟩ : ∃ m, n = m + 1 := ⟨n - 1, by omega⟩
  rw [C_absorb m i, Nat.add_sub_cancel]
/-- the harmonic triangle -/
theorem leib {n i T : Nat} (hi : i < n) (h1 : (n + 1) * C n i ∣ T) (h2 : (n + 1) * C n (i + 1) ∣ T) : n * C (n - 1) i ∣ T ∧ wd n T i = wd (n + 1) T i + wd (n + 1) T (i + 1) := by
  have e1 : wd (n + 1) T i * ((n + 1) * C n i) = T := Nat.div_mul_cancel h1
  have e2 : wd (n + 1) T (i + 1) * ((n + 1) * C n (i + 1)) = T := Nat.div_mul_cancel h2
  have a1 := edge_alt hi
  have a2 := edge_alt2 hi
  have key : (wd (n + 1) T i + wd (n + 1) T (i + 1)) * (n * C (n - 1) i) = T := by
    refine Nat.eq_of_mul_eq_mul_left (show 0 < n + 1 by omega) ?_
    generalize wd (n + 1) T i = a at e1
    generalize wd (n + 1) T (i + 1) = b at e2
    have x1 : (n + 1) * (a * (n * C (n - 1) i)) = T * (n - i) := by
      rw [← a1, ← e1]
      simp only [Nat.mul_assoc, Nat.mul_comm, Nat.mul_left_comm]
    have x2 : (n + 1) * (b * (n * C (n - 1) i)) = T * (i + 1) := by
      rw [← a2, ← e2]
      simp only [Nat.mul_assoc, Nat.mul_comm, Nat.mul_left_comm]
    have x3 : (n + 1) * ((a + b) * (n * C (n - 1) i)) = (n + 1) * (a * (n * C (n - 1) i)) + (n + 1) * (b * (n * C (n - 1) i)) := by
      rw [Nat.add_mul a b, Nat.mul_add (n + 1)]
    rw [x3, x1, x2, ← Nat.mul_add T, Nat.mul_comm T]
    congr 1
    omega
  have p : 0 < n * C (n - 1) i := edge_pos hi
  refine ⟨⟨_, by rw [Nat.mul_comm]; exact key.symm⟩, ?_⟩
  show T / (n * C (n - 1) i) = _
  conv => lhs; rw [← key]
  exact Nat.mul_div_cancel _ p
theorem sum_leib {T u f : Nat} (hf : f < u) : ∀ m : Nat, (∀ i, i ≤ m + f → (u + m) * C (u + m - 1) i ∣ T) → (u * C (u - 1) f ∣ T) ∧ sumTo (fun j => C m j * wd (u + m) T (j + f)) (m + 1) = wd u T f
  | 0, h => by
    have h0 := h f (by omega)
    refine ⟨h0, ?_⟩
    show 0 + C 0 0 * wd (u + 0) T (0 + f) = wd u T f
    rw [Nat.zero_add, Nat.zero_add, C_zero, Nat.one_mul, Nat.add_zero]
  | m + 1, h => by
    have hd : ∀ i, i ≤ m + f → (u + m) * C (u + m - 1) i ∣ T ∧ wd (u + m) T i = wd (u + m + 1) T i + wd (u + m + 1) T (i + 1) := fun i hi => by
      have a := h i (by omega)
      have b := h (i + 1) (by omega)
      rw [show u + (m + 1) = u + m + 1 from rfl, Nat.add_sub_cancel] at a b
      exact leib (show i < u + m by omega) a b
    obtain ⟨r1, r2⟩ := sum_leib hf m fun i hi => (hd i hi).1
    refine ⟨r1, ?_⟩
    rw [← r2]
    -- the right side split by the triangle
    have e1 : sumTo (fun j => C m j * wd (u + m) T (j + f)) (m + 1) = sumTo (fun j => C m j * wd (u + m + 1) T (j + f)) (m + 1) + sumTo (fun j => C m j * wd (u + m + 1) T (j + 1 + f)) (m + 1) := by
      rw [← sumTo_add]
      refine sumTo_congr fun j hj => ?_
      rw [(hd (j + f) (by omega)).2, Nat.mul_add, show j + f + 1 = j + 1 + f by omega]
    -- the left side split by Pascal
    have e2 : sumTo (fun j => C (m + 1) j * wd (u + (m + 1)) T (j + f)) (m + 1 + 1) = sumTo (fun j => C m j * wd (u + m + 1) T (j + f)) (m + 1 + 1) + sumTo (fun j => C m j * wd (u + m + 1) T (j + 1 + f)) (m + 1) := by
      rw [sumTo_shift, sumTo_shift (fun j => C m j * wd (u + m + 1) T (j + f)), Nat.add_assoc, ← sumTo_add, C_zero, C_zero]
      congr 1
      refine sumTo_congr fun j hj => ?_
      show C (m + 1) (j + 1) * wd (u + m + 1) T (j + 1 + f) = C m (j + 1) * wd (u + m + 1) T (j + 1 + f) + C m j * wd (u + m + 1) T (j + 1 + f)
      rw [C_ss, Nat.add_mul, Nat.add_comm]
    have e3 : sumTo (fun j => C m j * wd (u + m + 1) T (j + f)) (m + 1 + 1) = sumTo (fun j => C m j * wd (u + m + 1) T (j + f)) (m + 1) := by
      show sumTo _ (m + 1) + C m (m + 1) * _ = _
      rw [C_big m (m + 1) (by omega), Nat.zero_mul, Nat.add_zero]
    rw [e2, e3, e1]
/-- in how many lists the live server number f + 1 stands at index i -/
def fndAt (n T u f i : Nat) : Nat := if i < f ∨ n - u + f < i then 0 else C u f * C (n - u) (i - f) * (u - f) * wd n T i
theorem fnd_sum {n T u f : Nat} (hu : u ≤ n) (hf : f < u) (h : ∀ i, i ≤ n - u + f → n * C (n - 1) i ∣ T) : sumTo (fndAt n T u f) n = T := by
  have en : n = u + (n - u) := by omega
  obtain ⟨r1, r2⟩ := sum_leib (T := T) hf (n - u) fun i hi => by
    rw [← en]
    exact h i hi
  rw [← en] at r2
  have e1 : sumTo (fndAt n T u f) n = sumTo (fndAt n T u f) f + sumTo (fun i => fndAt n T u f (f + i)) (n - f) := by
    have := sumTo_cut (fndAt n T u f) f (n - f)
    rw [show f + (n - f) = n by omega] at this
    exact this
  have e2 : sumTo (fndAt n T u f) f = 0 := sumTo_zero fun i hi => if_pos (.inl hi)
  have e3 : sumTo (fun i => fndAt n T u f (f + i)) (n - f) = sumTo (fun i => fndAt n T u f (f + i)) (n - u + 1) + sumTo (fun i => fndAt n T u f (f + (n - u + 1 + i))) (n - f - (n - u + 1)) := by
    have := sumTo_cut (fun i => fndAt n T u f (f + i)) (n - u + 1) (n - f - (n - u + 1))
    rw [show n - u + 1 + (n - f - (n - u + 1)) = n - f by omega] at this
    exact this
  have e4 : sumTo (fun i => fndAt n T u f (f + (n - u + 1 + i))) (n - f - (n - u + 1)) = 0 := sumTo_zero fun i hi => if_pos (.inr (by omega))
  have e5 : sumTo (fun i => fndAt n T u f (f + i)) (n - u + 1) = (C u f * (u - f)) * sumTo (fun j => C (n - u) j * wd n T (j + f)) (n - u + 1) := by
    rw [← sumTo_mul]
    refine sumTo_congr fun i hi => ?_
    show fndAt n T u f (f + i) = _
    unfold fndAt
    rw [if_neg (by omega), show f + i - f = i by omega, show f + i = i + f by omega]
    simp only [Nat.mul_assoc, Nat.mul_comm, Nat.mul_left_comm]
  rw [e1, e2, e3, e4, e5, r2, Nat.zero_add, Nat.add_zero, edge_alt hf, Nat.mul_comm]
  exact wd_eq r1
end Ef
namespace Ef
/-! ### the numbers of the lists with a beginning -/
/-- what 'numbers_with' keeps on its way: the numbers from lo to hi - 1 have the beginning, the rest of number k is k + mv, L is left -/
structure Wst where
  lo : Int
  hi : Int
  mv : Int
  L : List Nat
def wStep (n c b s : Nat) (x : Wst) : Wst :=
  ⟨max x.lo ((wd n c b : Int) * (x.L.idxOf s : Int) - x.mv), min x.hi ((wd n c b : Int) * ((x.L.idxOf s : Int) + 1) - x.mv), x.mv + (wd n c b : Int) * ((s : Int) - (x.L.idxOf s : Int) - (x.L.idxOf s : Int)), x.L.eraseIdx (x.L.idxOf s)⟩
/-- from level b on -/
def wRun (n c : Nat) : Nat → List Nat → Wst → Option Wst
  | _, [], x => some x
  | b, s :: r, x => if s ∈ x.L then (if (wStep n c b s x).hi ≤ (wStep n c b s x).lo then none else wRun n c (b + 1) r (wStep n c b s x)) else none
/-- the lists whose beginning is t, in the table of depth b -/
structure Beg (n c : Nat) (t : List Nat) (x : Wst) : Prop where
  nd : x.L.Nodup
  asc : Asc x.L
  lo0 : 0 ≤ x.lo
  hic : x.hi ≤ (c : Int)
  iff : ∀ k : Nat, k < c → ((fol n c (List.range' 0 t.length) (List.range' 0 n) k).1 = t ↔ x.lo ≤ (k : Int) ∧ (k : Int) < x.hi)
  rest : ∀ k : Nat, x.lo ≤ (k : Int) → (k : Int) < x.hi → ((fol n c (List.range' 0 t.length) (List.range' 0 n) k).2 : Int) = (k : Int) + x.mv ∧ folL n c (List.range' 0 t.length) (List.range' 0 n) k = x.L
  len : x.L.length = n - t.length
  lt : ∀ y ∈ x.L, y < n
  mem : ∀ z, z ∈ x.L ↔ z < n ∧ z ∉ t
theorem Beg.start (n c : Nat) : Beg n c [] ⟨0, (c : Int), 0, List.range' 0 n⟩ :=
  ⟨asc_nodup (asc_range' n 0), asc_range' n 0, Int.le_refl _, Int.le_refl _, fun k hk => ⟨fun _ => ⟨by show (0 : Int) ≤ _; omega, by show (k : Int) < (c : Int); omega⟩, fun _ => rfl⟩, fun k h1 h2 => ⟨by show (k : Int) = (k : Int) + 0; omega, rfl⟩, by rw [List.length_range']; rfl, fun y hy => mem_range0.mp hy, fun z => by rw [mem_range0]; simp⟩
theorem mem_erase_iff {L : List Nat} {i s : Nat} (nd : L.Nodup) (e : L[i]? = some s) (z : Nat) : z ∈ L.eraseIdx i ↔ z ∈ L ∧ z ≠ s := by
  have pm := erasePerm L i s e
  constructor
  · intro h
    refine ⟨List.mem_of_mem_eraseIdx h, fun c => ?_⟩
    rw [c] at h
    exact not_mem_erase nd e h
  · rintro ⟨h1, h2⟩
    rcases List.mem_cons.mp (pm.mem_iff.mpr h1) with h | h
    · exact absurd h h2
    · exact h
theorem idx_at {L : List Nat} {s : Nat} (h : s ∈ L) : L[L.idxOf s]? = some s := by
  rw [List.getElem?_eq_getElem (List.idxOf_lt_length_of_mem h), List.getElem_idxOf]
theorem div_block {w r i : Nat} (w0 : 0 < w) : r / w = i ↔ w * i ≤ r ∧ r < w * (i + 1) := by
  rw [Nat.div_eq_iff w0]
  rw [Nat.mul_comm i w]
  constructor
  · rintro ⟨h1, h2⟩
    rw [Nat.mul_add, Nat.mul_one]
    exact ⟨h1, by omega⟩
  · rintro ⟨h1, h2⟩
    rw [Nat.mul_add, Nat.mul_one] at h2
    exact ⟨h1, by omega⟩
/-- the rest stays within its bounds, on every way -/
theorem fwd_bound {n c d : Nat} (hd : ∀ b, b < d → n * C (n - 1) b ∣ c) (hc : 0 < c) (hdn : d ≤ n) {k : Nat} (hk : k < c) : ∀ b, b ≤ d →
    (folL n c (List.range' 0 b) (List.range' 0 n) k).length = n - b ∧ Asc (folL n c (List.range' 0 b) (List.range' 0 n) k) ∧ (∀ y ∈ folL n c (List.range' 0 b) (List.range' 0 n) k, y < n) ∧ (fol n c (List.range' 0 b) (List.range' 0 n) k).2 < c / C n b
  | 0, _ => ⟨by show (List.range' 0 n).length = n; rw [List.length_range'], asc_range' n 0, fun y hy => mem_range0.mp hy, by rw [C_zero, Nat.div_one]; exact hk⟩
  | b + 1, h => by
    obtain ⟨h1, h2, h3, h4⟩ := fwd_bound hd hc hdn hk b (by omega)
    have dv := hd b (by omega)
    have w0 := wd_pos dv hc
    have e := wd_out dv (show b < n by omega)
    have p := C_pos n b (by omega)
    have h5 : c / C n b = wd n c b * (n - b) := by
      conv => lhs; rw [← e]
      exact Nat.mul_div_cancel _ p
    rw [h5] at h4
    rw [range'_end, folL_snoc, fol_snoc]
    have hi : (fol n c (List.range' 0 b) (List.range' 0 n) k).2 / wd n c b < (folL n c (List.range' 0 b) (List.range' 0 n) k).length := by
      rw [h1]
      exact Nat.div_lt_of_lt_mul h4
    have hm : (fol n c (List.range' 0 b) (List.range' 0 n) k).2 % wd n c b < wd n c b := Nat.mod_lt _ w0
    have hx := getD_of hi
    have g2 := asc_le h2 h3 hx
    refine ⟨?_, asc_erase h2 _, fun y hy => h3 y (List.mem_of_mem_eraseIdx hy), ?_⟩
    · rw [List.length_eraseIdx, if_pos hi]
      omega
    · rw [wd_back dv (by omega)]
      show wd n c b * _ + _ < _
      have h6 : (folL n c (List.range' 0 b) (List.range' 0 n) k).getD ((fol n c (List.range' 0 b) (List.range' 0 n) k).2 / wd n c b) 0 - (fol n c (List.range' 0 b) (List.range' 0 n) k).2 / wd n c b ≤ b := by omega
      have h7 := Nat.mul_le_mul_left (wd n c b) h6
      rw [Nat.mul_add, Nat.mul_one]
      omega
theorem Beg.step {n c d : Nat} {t : List Nat} {x : Wst} (h : Beg n c t x) (hd : ∀ b, b < d → n * C (n - 1) b ∣ c) (hc : 0 < c) (hdn : d ≤ n) (hb : t.length < d) {s : Nat} (hs : s ∈ x.L) : Beg n c (t ++ [s]) (wStep n c t.length s x) := by
  have dv := hd t.length hb
  have w0 := wd_pos dv hc
  have hix := idx_at hs
  have hil := List.idxOf_lt_length_of_mem hs
  have his := asc_ge h.asc hix
  have ea : (t ++ [s]).length = t.length + 1 := by rw [List.length_append]; rfl
  have e := wd_out dv (show t.length < n by omega)
  have p := C_pos n t.length (by omega)
  have h5 : c / C n t.length = wd n c t.length * (n - t.length) := by
    conv => lhs; rw [← e]
    exact Nat.mul_div_cancel _ p
  -- where the rest lies
  have key : ∀ k : Nat, k < c → x.lo ≤ (k : Int) → (k : Int) < x.hi → ((fol n c (List.range' 0 t.length) (List.range' 0 n) k).2 / wd n c t.length = x.L.idxOf s ↔ (wd n c t.length : Int) * (x.L.idxOf s : Int) - x.mv ≤ (k : Int) ∧ (k : Int) < (wd n c t.length : Int) * ((x.L.idxOf s : Int) + 1) - x.mv) := by
    intro k hk h1 h2
    obtain ⟨r1, _⟩ := h.rest k h1 h2
    rw [div_block w0]
    have c1 : ((wd n c t.length * x.L.idxOf s : Nat) : Int) = (wd n c t.length : Int) * (x.L.idxOf s : Int) := Int.natCast_mul _ _
    have c2 : ((wd n c t.length * (x.L.idxOf s + 1) : Nat) : Int) = (wd n c t.length : Int) * ((x.L.idxOf s : Int) + 1) := Int.natCast_mul _ _
    constructor
    · rintro ⟨a, b⟩
      exact ⟨by omega, by omega⟩
    · rintro ⟨a, b⟩
      exact ⟨by omega, by omega⟩
  have got : ∀ k : Nat, k < c → x.lo ≤ (k : Int) → (k : Int) < x.hi → ((folL n c (List.range' 0 t.length) (List.range' 0 n) k).getD ((fol n c (List.range' 0 t.length) (List.range' 0 n) k).2 / wd n c t.length) 0 = s ↔ (fol n c (List.range' 0 t.length) (List.range' 0 n) k).2 / wd n c t.length = x.L.idxOf s) := by
    intro k hk h1 h2
    obtain ⟨r1, r2⟩ := h.rest k h1 h2
    obtain ⟨b1, _, _, b4⟩ := fwd_bound hd hc hdn hk t.length (by omega)
    rw [h5] at b4
    have hi : (fol n c (List.range' 0 t.length) (List.range' 0 n) k).2 / wd n c t.length < x.L.length := by
      rw [h.len]
      exact Nat.div_lt_of_lt_mul b4
    rw [r2]
    constructor
    · intro z
      have h8 := getD_of hi
      rw [z] at h8
      exact nodup_inj h.nd h8 hix
    · intro z
      rw [z]
      have h8 := getD_of hil
      rw [hix] at h8
      exact (Option.some.inj h8).symm
  refine ⟨h.nd.sublist (List.eraseIdx_sublist _ _), asc_erase h.asc _, ?_, ?_, fun k hk => ?_, fun k h1 h2 => ?_, ?_, fun y hy => h.lt y (List.mem_of_mem_eraseIdx hy), fun z => ?_⟩
  · have := h.lo0
    show 0 ≤ max x.lo _
    omega
  · have := h.hic
    show min x.hi _ ≤ _
    omega
  · rw [ea, range'_end, fol_snoc]
    show _ ++ [_] = t ++ [s] ↔ max x.lo _ ≤ (k : Int) ∧ (k : Int) < min x.hi _
    constructor
    · intro z
      obtain ⟨z1, z2⟩ := List.append_inj' z rfl
      obtain ⟨a, b⟩ := (h.iff k hk).mp z1
      have z3 := (got k hk a b).mp (List.singleton_inj.mp z2)
      have z4 := (key k hk a b).mp z3
      omega
    · intro z
      have a : x.lo ≤ (k : Int) ∧ (k : Int) < x.hi := by omega
      have z3 := (key k hk a.1 a.2).mpr (by omega)
      have z4 := (got k hk a.1 a.2).mpr z3
      rw [(h.iff k hk).mpr a, z4]
  · have h1' : max x.lo ((wd n c t.length : Int) * (x.L.idxOf s : Int) - x.mv) ≤ (k : Int) := h1
    have h2' : (k : Int) < min x.hi ((wd n c t.length : Int) * ((x.L.idxOf s : Int) + 1) - x.mv) := h2
    have a : x.lo ≤ (k : Int) ∧ (k : Int) < x.hi := by omega
    have hk : k < c := by
      have := h.hic
      omega
    have z3 := (key k hk a.1 a.2).mpr (by omega)
    have z4 := (got k hk a.1 a.2).mpr z3
    obtain ⟨r1, r2⟩ := h.rest k a.1 a.2
    rw [ea, range'_end, fol_snoc, folL_snoc, z3, r2]
    rw [z3, r2] at z4
    refine ⟨?_, rfl⟩
    show ((wd n c t.length * (x.L.getD (x.L.idxOf s) 0 - x.L.idxOf s) + (fol n c (List.range' 0 t.length) (List.range' 0 n) k).2 % wd n c t.length : Nat) : Int) = (k : Int) + (x.mv + (wd n c t.length : Int) * ((s : Int) - (x.L.idxOf s : Int) - (x.L.idxOf s : Int)))
    rw [z4]
    have dm := Nat.div_add_mod (fol n c (List.range' 0 t.length) (List.range' 0 n) k).2 (wd n c t.length)
    rw [z3] at dm
    generalize (fol n c (List.range' 0 t.length) (List.range' 0 n) k).2 % wd n c t.length = u at dm
    generalize x.L.idxOf s = i at *
    generalize wd n c t.length = w at *
    rw [Int.natCast_add, Int.natCast_mul, Int.natCast_sub his]
    have dm2 : (w : Int) * (i : Int) + (u : Int) = (k : Int) + x.mv := by
      rw [← r1, ← dm, Int.natCast_add, Int.natCast_mul]
    rw [Int.mul_sub, Int.mul_sub, Int.mul_sub]
    omega
  · rw [ea]
    show (x.L.eraseIdx _).length = _
    rw [List.length_eraseIdx, if_pos hil, h.len]
    omega
  · show z ∈ x.L.eraseIdx _ ↔ _
    rw [mem_erase_iff h.nd hix, h.mem, List.mem_append, List.mem_singleton]
    constructor
    · rintro ⟨⟨a, b⟩, e⟩
      exact ⟨a, fun q => q.elim b e⟩
    · rintro ⟨a, b⟩
      exact ⟨⟨a, fun q => b (.inl q)⟩, fun q => b (.inr q)⟩
theorem fol_take (n c k : Nat) (b : Nat) : ∀ m : Nat, (fol n c (List.range' 0 (b + m)) (List.range' 0 n) k).1.take b = (fol n c (List.range' 0 b) (List.range' 0 n) k).1
  | 0 => by
    have := fol_len n c (List.range' 0 b) (List.range' 0 n) k
    rw [List.length_range'] at this
    exact List.take_of_length_le (by rw [Nat.add_zero]; omega)
  | m + 1 => by
    rw [show b + (m + 1) = b + m + 1 from rfl, range'_end, fol_snoc]
    have := fol_len n c (List.range' 0 (b + m)) (List.range' 0 n) k
    rw [List.length_range'] at this
    show (_ ++ [_]).take b = _
    rw [List.take_append_of_le_length (by omega)]
    exact fol_take n c k b m
theorem wRun_some {n c d : Nat} (hd : ∀ b, b < d → n * C (n - 1) b ∣ c) (hc : 0 < c) (hdn : d ≤ n) {k : Nat} (hk : k < c) : ∀ (r t : List Nat) (x : Wst), t.length + r.length ≤ d → Beg n c t x → (fol n c (List.range' 0 (t.length + r.length)) (List.range' 0 n) k).1 = t ++ r → ∃ y, wRun n c t.length r x = some y ∧ Beg n c (t ++ r) y
  | [], t, x, _, h, _ => ⟨x, rfl, by rw [List.append_nil]; exact h⟩
  | s :: r, t, x, hl, h, he => by
    have el : (s :: r).length = r.length + 1 := rfl
    have e1 : (fol n c (List.range' 0 t.length) (List.range' 0 n) k).1 = t := by
      have := fol_take n c k t.length (s :: r).length
      rw [he, List.take_left] at this
      exact this.symm
    have ea : (t ++ [s]).length = t.length + 1 := by rw [List.length_append]; rfl
    have e2 : (fol n c (List.range' 0 (t.length + 1)) (List.range' 0 n) k).1 = t ++ [s] := by
      have := fol_take n c k (t.length + 1) r.length
      rw [show t.length + 1 + r.length = t.length + (s :: r).length by omega, he] at this
      rw [← this, show t ++ s :: r = (t ++ [s]) ++ r by simp, ← ea, List.take_left]
    have in1 := (h.iff k hk).mp e1
    obtain ⟨r1, r2⟩ := h.rest k in1.1 in1.2
    have dv := hd t.length (by omega)
    have w0 := wd_pos dv hc
    obtain ⟨b1, b2, b3, b4⟩ := fwd_bound hd hc hdn hk t.length (by omega)
    have hs : s ∈ x.L := by
      have e3 := e2
      rw [range'_end, fol_snoc] at e3
      obtain ⟨_, z2⟩ := List.append_inj' e3 rfl
      have z3 := List.singleton_inj.mp z2
      rw [← r2, ← z3]
      refine List.mem_of_getElem? (getD_of ?_)
      rw [b1]
      have e := wd_out dv (show t.length < n by omega)
      have p := C_pos n t.length (by omega)
      have h5 : c / C n t.length = wd n c t.length * (n - t.length) := by
        conv => lhs; rw [← e]
        exact Nat.mul_div_cancel _ p
      rw [h5] at b4
      exact Nat.div_lt_of_lt_mul b4
    have st := h.step hd hc hdn (by omega) hs
    have in2 := (st.iff k hk).mp (by rw [ea]; exact e2)
    obtain ⟨y, y1, y2⟩ := wRun_some hd hc hdn hk r (t ++ [s]) _ (by rw [ea]; omega) st (by rw [ea, show t.length + 1 + r.length = t.length + (s :: r).length by omega, he]; simp)
    refine ⟨y, ?_, by rw [show t ++ s :: r = (t ++ [s]) ++ r by simp]; exact y2⟩
    show (if s ∈ x.L then _ else none) = _
    rw [if_pos hs, if_neg (by omega)]
    rw [ea] at y1
    exact y1
theorem wRun_snoc (n c s : Nat) : ∀ (r : List Nat) (b : Nat) (x : Wst), wRun n c b (r ++ [s]) x = (wRun n c b r x).bind fun y => wRun n c (b + r.length) [s] y
  | [], b, x => rfl
  | u :: r, b, x => by
    show (if u ∈ x.L then _ else none) = Option.bind (if u ∈ x.L then _ else none) _
    by_cases h1 : u ∈ x.L
    · rw [if_pos h1, if_pos h1]
      by_cases h2 : (wStep n c b u x).hi ≤ (wStep n c b u x).lo
      · rw [if_pos h2, if_pos h2]
        rfl
      · rw [if_neg h2, if_neg h2]
        have := wRun_snoc n c s r (b + 1) (wStep n c b u x)
        rw [show (u :: r).length = r.length + 1 from rfl, show b + (r.length + 1) = b + 1 + r.length by omega]
        exact this
    · rw [if_neg h1, if_neg h1]
      rfl
/-- where the numbers of the first i continuations end -/
def cutAt (w : Nat) (y : Wst) (i : Nat) : Int := min y.hi (max y.lo ((w : Int) * (i : Int) - y.mv))
end Ef
namespace Ef
/-! ### sets and their numbers -/
def many (k : Nat) : Nat → Nat
  | 0 => 0
  | j + 1 => C k j
theorem C_many (k j : Nat) : C (k + 1) j = many k j + C k j := by
  cases j with
  | zero => rw [C_zero, C_zero]; rfl
  | succ j => exact C_ss k j
theorem binZ_many (k j : Nat) : binZ (k : Int) ((j : Int) - 1) = (many k j : Int) := by
  cases j with
  | zero => exact if_pos (.inl (by decide))
  | succ j =>
    rw [show ((j + 1 : Nat) : Int) - 1 = (j : Int) by omega]
    exact binZ_nat k j
/-- the set with the number r among those of j of the k servers from s on -/
def unr : Nat → Nat → Nat → Nat → List Nat
  | _, 0, _, _ => []
  | s, k + 1, j, r => if r < many k j then s :: unr (s + 1) k (j - 1) r else unr (s + 1) k j (r - many k j)
/-- the number of a set among those of its size of the k servers from s on -/
def rnk : Nat → Nat → List Nat → Nat
  | _, 0, _ => 0
  | s, k + 1, ms => if ms.head? = some s then rnk (s + 1) k ms.tail else many k ms.length + rnk (s + 1) k ms
def Sub (s k : Nat) (ms : List Nat) : Prop := ms.Pairwise (· < ·) ∧ ∀ m ∈ ms, s ≤ m ∧ m < s + k
theorem unr_spec : ∀ (k s j r : Nat), r < C k j → (unr s k j r).length = j ∧ Sub s k (unr s k j r) ∧ rnk s k (unr s k j r) = r
  | 0, s, j, r, h => by
    cases j with
    | zero =>
      have h0 : r < 1 := h
      exact ⟨rfl, ⟨List.Pairwise.nil, fun m hm => absurd hm List.not_mem_nil⟩, by show 0 = r; omega⟩
    | succ j => exact absurd h (Nat.not_lt_zero _)
  | k + 1, s, j, r, h => by
    rw [C_many] at h
    by_cases c : r < many k j
    · have e : unr s (k + 1) j r = s :: unr (s + 1) k (j - 1) r := if_pos c
      cases j with
      | zero => exact absurd c (Nat.not_lt_zero _)
      | succ j =>
        obtain ⟨h1, h2, h3⟩ := unr_spec k (s + 1) j r c
        rw [e]
        refine ⟨?_, ⟨?_, ?_⟩, ?_⟩
        · show (unr (s + 1) k j r).length + 1 = j + 1
          rw [h1]
        · refine List.Pairwise.cons (fun m hm => ?_) h2.1
          have := h2.2 m hm
          omega
        · intro m hm
          rcases List.mem_cons.mp hm with rfl | hm
          · omega
          · have := h2.2 m hm
            omega
        · have e3 : rnk s (k + 1) (s :: unr (s + 1) k j r) = rnk (s + 1) k (unr (s + 1) k j r) := if_pos rfl
          exact e3.trans h3
    · have e : unr s (k + 1) j r = unr (s + 1) k j (r - many k j) := if_neg c
      obtain ⟨h1, h2, h3⟩ := unr_spec k (s + 1) j (r - many k j) (by omega)
      rw [e]
      refine ⟨h1, ⟨h2.1, fun m hm => by have := h2.2 m hm; omega⟩, ?_⟩
      have hh : ¬ (unr (s + 1) k j (r - many k j)).head? = some s := fun z => by
        have hm : s ∈ unr (s + 1) k j (r - many k j) := List.mem_of_mem_head? z
        have := h2.2 s hm
        omega
      show (if (unr (s + 1) k j (r - many k j)).head? = some s then _ else many k (unr (s + 1) k j (r - many k j)).length + rnk (s + 1) k (unr (s + 1) k j (r - many k j))) = r
      rw [if_neg hh, h1, h3]
      omega
theorem rnk_spec : ∀ (k s : Nat) (ms : List Nat), Sub s k ms → rnk s k ms < C k ms.length ∧ unr s k ms.length (rnk s k ms) = ms
  | 0, s, ms, h => by
    cases ms with
    | nil => exact ⟨Nat.one_pos, rfl⟩
    | cons m r =>
      have := h.2 m List.mem_cons_self
      omega
  | k + 1, s, ms, h => by
    by_cases c : ms.head? = some s
    · cases ms with
      | nil => cases c
      | cons m t =>
        obtain rfl : m = s := Option.some.inj c
        have ht : Sub (m + 1) k t := ⟨(List.pairwise_cons.mp h.1).2, fun x hx => by
          have h1 := (List.pairwise_cons.mp h.1).1 x hx
          have h2 := h.2 x (List.mem_cons_of_mem _ hx)
          omega⟩
        obtain ⟨h1, h2⟩ := rnk_spec k (m + 1) t ht
        have e : rnk m (k + 1) (m :: t) = rnk (m + 1) k t := if_pos rfl
        rw [e]
        have hm : rnk (m + 1) k t < many k (t.length + 1) := h1
        refine ⟨?_, ?_⟩
        · rw [C_many]
          exact Nat.lt_of_lt_of_le hm (Nat.le_add_right _ _)
        · show unr m (k + 1) (t.length + 1) (rnk (m + 1) k t) = m :: t
          have e2 : unr m (k + 1) (t.length + 1) (rnk (m + 1) k t) = m :: unr (m + 1) k t.length (rnk (m + 1) k t) := if_pos hm
          rw [e2, h2]
    · have hs : Sub (s + 1) k ms := ⟨h.1, fun x hx => by
        have h2 := h.2 x hx
        have hne : x ≠ s := fun z => by
          subst z
          cases ms with
          | nil => cases hx
          | cons m t =>
            rcases List.mem_cons.mp hx with z | hx
            · exact c (by rw [z]; rfl)
            · have h3 := (List.pairwise_cons.mp h.1).1 x hx
              have h4 := h.2 m List.mem_cons_self
              omega
        omega⟩
      obtain ⟨h1, h2⟩ := rnk_spec k (s + 1) ms hs
      have e : rnk s (k + 1) ms = many k ms.length + rnk (s + 1) k ms := if_neg c
      rw [e]
      refine ⟨by rw [C_many]; omega, ?_⟩
      have e2 : unr s (k + 1) ms.length (many k ms.length + rnk (s + 1) k ms) = unr (s + 1) k ms.length (many k ms.length + rnk (s + 1) k ms - many k ms.length) := if_neg (by omega)
      rw [e2, Nat.add_sub_cancel_left, h2]
/-! the small sets, one after the other -/
def allG (few : Nat) : Nat → List (List Nat)
  | 0 => [[]]
  | i + 1 => allG few i ++ ((allG few i).filter fun s => decide (s.length < few)).map fun s => s ++ [i]
def allS (n few : Nat) : List (List Nat) := (allG few n).filter fun s => decide (s.length = few)
def inOrder (n few : Nat) : List (List Nat) := (List.range (C n few)).map (unr 0 n few)
def codeN : List Nat → Nat
  | [] => 0
  | d :: r => d * 8 ^ r.length + codeN r
def smallOk (n few : Nat) : Bool := (allS n few).isPerm (inOrder n few) && decide ((inOrder n few).Pairwise fun a b => codeN a < codeN b)
theorem small_sets : ((List.range 6).all fun i => (List.range (i + 3)).all fun few => smallOk (i + 2) few) = true := by decide +kernel
theorem small_lens : ((List.range 6).all fun i => (List.range (i + 3)).all fun few => decide (C (i + 2) few < 64) && (allS (i + 2) few).all fun s => decide (s.length = few) && s.all fun m => decide (m < 8)) = true := by decide +kernel
theorem gen_lens : ((List.range 6).all fun i => (List.range (i + 3)).all fun few => (List.range (i + 3)).all fun t => decide ((allG few t).length ≤ 200) && (allG few t).all fun s => decide (s.length ≤ 8)) = true := by decide +kernel
theorem small_sets' {n k : Nat} (h2 : 2 ≤ n) (h7 : n ≤ 7) (hk : k ≤ n) : (allS n k).Perm (inOrder n k) ∧ (inOrder n k).Pairwise (fun a b => codeN a < codeN b) ∧ C n k < 64 ∧ ∀ s ∈ allS n k, s.length = k ∧ ∀ m ∈ s, m < 8 := by
  obtain ⟨i, rfl⟩ : ∃ i, n = i + 2 := ⟨n - 2, by omega⟩
  have h1 := List.all_eq_true.mp (List.all_eq_true.mp small_sets i (List.mem_range.mpr (by omega))) k (List.mem_range.mpr (by omega))
  unfold smallOk at h1
  rw [Bool.and_eq_true] at h1
  have h3 := List.all_eq_true.mp (List.all_eq_true.mp small_lens i (List.mem_range.mpr (by omega))) k (List.mem_range.mpr (by omega))
  rw [Bool.and_eq_true] at h3
  refine ⟨List.isPerm_iff.mp h1.1, of_decide_eq_true h1.2, of_decide_eq_true h3.1, fun s hs => ?_⟩
  have h4 := List.all_eq_true.mp h3.2 s hs
  rw [Bool.and_eq_true] at h4
  exact ⟨of_decide_eq_true h4.1, fun m hm => of_decide_eq_true (List.all_eq_true.mp h4.2 m hm)⟩
theorem gen_lens' {n k t : Nat} (h2 : 2 ≤ n) (h7 : n ≤ 7) (hk : k ≤ n) (ht : t ≤ n) : (allG k t).length ≤ 200 ∧ ∀ s ∈ allG k t, s.length ≤ 8 := by
  obtain ⟨i, rfl⟩ : ∃ i, n = i + 2 := ⟨n - 2, by omega⟩
  have h1 := List.all_eq_true.mp (List.all_eq_true.mp (List.all_eq_true.mp gen_lens i (List.mem_range.mpr (by omega))) k (List.mem_range.mpr (by omega))) t (List.mem_range.mpr (by omega))
  rw [Bool.and_eq_true] at h1
  exact ⟨of_decide_eq_true h1.1, fun s hs => of_decide_eq_true (List.all_eq_true.mp h1.2 s hs)⟩
theorem code_inj {L : List (List Nat)} (h : L.Pairwise fun a b => codeN a < codeN b) {a b : List Nat} (ha : a ∈ L) (hb : b ∈ L) (e : codeN a = codeN b) : a = b := by
  induction L with
  | nil => cases ha
  | cons x r ih =>
    obtain ⟨h1, h2⟩ := List.pairwise_cons.mp h
    rcases List.mem_cons.mp ha with e1 | ha2
    · rcases List.mem_cons.mp hb with e2 | hb2
      · rw [e1, e2]
      · have := h1 b hb2
        rw [← e1] at this
        omega
    · rcases List.mem_cons.mp hb with e2 | hb2
      · have := h1 a ha2
        rw [← e2] at this
        omega
      · exact ih h2 ha2 hb2
theorem order_unique {L M : List (List Nat)} (hM : M.Pairwise fun a b => codeN a < codeN b) (hL : L.Pairwise fun a b => codeN a ≤ codeN b) (h : L.Perm M) : L = M := by
  induction M generalizing L with
  | nil => exact List.perm_nil.mp h
  | cons x r ih =>
    cases L with
    | nil => exact absurd h.length_eq (by simp)
    | cons y t =>
      obtain ⟨h1, h2⟩ := List.pairwise_cons.mp hM
      obtain ⟨h3, h4⟩ := List.pairwise_cons.mp hL
      have hyx : y = x := by
        have hy : y ∈ x :: r := h.mem_iff.mp List.mem_cons_self
        have hx : x ∈ y :: t := h.mem_iff.mpr List.mem_cons_self
        rcases List.mem_cons.mp hy with e | hy
        · exact e
        · rcases List.mem_cons.mp hx with e | hx
          · exact e.symm
          · have h5 := h1 y hy
            have h6 := h3 x hx
            omega
      subst hyx
      rw [ih h2 h4 h.cons_inv]
end Ef
namespace Ef
open PySem PySem.Spec PyProof.Rows L2
/-! ### a call whose arguments are all given by name -/
def permL {α : Type} (perm : List Nat) (n : Nat) (us ws : List α) : List α :=
  if us.length = 0 ∧ ws.length = n then perm.filterMap (fun i => ws[i]?) else []
theorem paired_len {α β : Type} {F : α → β → Prop} : ∀ {l : List α} {m : List β}, Paired F l m → l.length = m.length
  | _, _, .nil => rfl
  | _, _, .cons _ t => congrArg (· + 1) (paired_len t)
theorem paired_at {α β : Type} {F : α → β → Prop} : ∀ {l : List α} {m : List β}, Paired F l m → ∀ i : Nat, (l[i]? = none ∧ m[i]? = none) ∨ ∃ x y, l[i]? = some x ∧ m[i]? = some y ∧ F x y
  | _, _, .nil, _ => .inl ⟨rfl, rfl⟩
  | _, _, .cons h _, 0 => .inr ⟨_, _, rfl, rfl, h⟩
  | _, _, .cons _ t, i + 1 => by
    rw [List.getElem?_cons_succ, List.getElem?_cons_succ]
    exact paired_at t i
theorem paired_pick {α β : Type} {F : α → β → Prop} {l : List α} {m : List β} (h : Paired F l m) : ∀ perm : List Nat, Paired F (perm.filterMap (fun i => l[i]?)) (perm.filterMap (fun i => m[i]?))
  | [] => .nil
  | i :: r => by
    rcases paired_at h i with ⟨e1, e2⟩ | ⟨x, y, e1, e2, f⟩
    · rw [List.filterMap_cons_none e1, List.filterMap_cons_none e2]
      exact paired_pick h r
    · rw [List.filterMap_cons_some e1, List.filterMap_cons_some e2]
      exact .cons f (paired_pick h r)
theorem permL_rel {perm : List Nat} {n : Nat} {vs zs : List V} {us ws : List Value} (r : Vals vs us) (rz : Vals zs ws) : Vals (permL perm n vs zs) (permL perm n us ws) := by
  unfold permL
  rw [paired_len r, paired_len rz]
  by_cases h : us.length = 0 ∧ ws.length = n
  · rw [if_pos h, if_pos h]
    exact paired_pick rz perm
  · rw [if_neg h, if_neg h]
    exact .nil
theorem kb_of {K : PySem.W.Frag} {fd : FuncData} {ps ks : List Str} {perm : List Nat} {n : Nat} (h0 : ps ≠ [])
    (h : ∀ ws : List Value, ws.length = n → bindArgs fd ⟨[], ks.zip ws⟩ = pure (ps.zip (perm.filterMap (fun i => ws[i]?)))) :
    KBinds K fd ps ks (permL perm n) (permL perm n) := by
  refine ⟨fun s us ws _ hl => ?_, fun r rz => permL_rel r rz⟩
  unfold permL at hl ⊢
  by_cases c : us.length = 0 ∧ ws.length = n
  · rw [if_pos c]
    have e : us = [] := List.length_eq_zero_iff.mp c.1
    subst e
    exact .of_eq (h ws c.2)
  · rw [if_neg c] at hl
    exact absurd (List.length_eq_zero_iff.mp hl.symm) h0
theorem Fun_kb {K : PySem.W.Frag} {x qual : Str} {st : Stmt} {f : Addr} {fd : FuncData} {ps ks : List Str} (perm : List Nat) (n : Nat) (F : Fun K x qual st f fd) (h0 : ps ≠ [])
    (h : ∀ (kV doc pm : Value) (an : Option Addr) (cdv ct : Value) (ws : List Value), ws.length = n → bindArgs (PySem.W.fnOf x qual (defArgs st) (defBody st) (defScope st) .none kV doc pm an cdv ct) ⟨[], ks.zip ws⟩ = pure (ps.zip (perm.filterMap (fun i => ws[i]?)))) :
    KBinds K fd ps ks (permL perm n) (permL perm n) := by
  obtain ⟨oc, od, kV, doc, pm, an, cdv, ct, osl, rfl, lk, hcd⟩ := F.ex
  exact kb_of h0 (h kV doc pm an cdv ct)
section
variable {X : Cx} {CX : CXT} {k : Nat} {f : Addr} {fd : FuncData} {ps ks : List Str} {sp : Sp} {E : XK} {x : Str} {p pos : Pos} {kws : List Keyword} {tk : TA}
variable {g : List Value → List Value → List Value} {gV : List V → List V → List V}
/-- f(k = v, ..) -/
theorem pe_kw (F : FnOk X.prog X.w X.K X.mg X.base CX k f fd ps sp) (hr : Room k X.A) (hg : Gl X x) (hm : X.mg x = some (.ref f))
    (hk : PySem.W.keepIn X.K (.ref f) = true) (hb : KBinds X.K fd ps ks g gV) (hx : Passes CX X E) (hkw : PK X kws tk)
    (a1 : (backToKw pos (keywordEach kws X.env)).all (fun z => z.1.isSome) = true := by rfl)
    (a2 : (backToKw pos (keywordEach kws X.env)).filterMap (fun z => z.1) = ks := by rfl)
    (a3 : (x == ("__debug__" : Str)) = false := by decide)
    (a4 : ((backTo pos (starEach [] X.env)).any (fun z => z.1) || (backToKw pos (keywordEach kws X.env)).any (fun z => z.1.isNone)) = false := by rfl) :
    PE X (.Call (.Name x p) [] kws pos) (tCallK sp gV E tNil tk) := by
  refine ⟨fun pins s σ H Q I h => wpAny_Call_Name_kw (ld_glob I hg hm ?_ a3)⟩
  refine PySem.W.callWith_KW0 (h₀ := X.base) I.ok.mod.kin hk a1 ?_ a4
  refine thn (hkw.run pos pins s σ H _ I h) fun ws s2 z => ?_
  obtain ⟨zs, H2, I2, rz, q2⟩ := z
  refine ⟨I2.kIn, ?_⟩
  rw [a2]
  exact run_fnk (us := []) (vs := []) F hr hb hx I2 .nil rz q2
end
/-! ### heaps -/
theorem same_new {H : Hp} {p : Addr} {o : HO} (h : H p = none) : Same H (upd H p o) := fun b x e => by
  rw [upd_ne (ne_of_none e h)]
  exact e
theorem keep_upd {H H1 : Hp} {p : Addr} {o : HO} (s : Same H H1) (h : H p = none) : Same H (upd H1 p o) := fun b x e => by
  rw [upd_ne (ne_of_none e h)]
  exact s b x e
/-- all but what stands at p is as it was -/
def But (p : Addr) (H H' : Hp) : Prop := ∀ b o, b ≠ p → H b = some o → H' b = some o
theorem But.refl (p : Addr) (H : Hp) : But p H H := fun _ _ _ e => e
theorem But.trans {p : Addr} {H H1 H2 : Hp} (s : But p H H1) (t : But p H1 H2) : But p H H2 := fun b o n e => t b o n (s b o n e)
theorem But.same {p : Addr} {H H1 H2 : Hp} (s : But p H H1) (t : Same H1 H2) : But p H H2 := fun b o n e => t b o (s b o n e)
theorem But.of {p : Addr} {H H1 : Hp} (t : Same H H1) : But p H H1 := fun b o _ e => t b o e
theorem But.upd {p : Addr} {H H1 : Hp} {o : HO} (s : But p H H1) : But p H (upd H1 p o) := fun b x n e => by
  rw [upd_ne n]
  exact s b x n e
theorem But.to {p : Addr} {H H1 : Hp} (s : But p H H1) (h : H p = none) : Same H H1 := fun b x e => s b x (ne_of_none e h) e
theorem But.seq {K : PySem.W.Frag} {p a : Addr} {H H' : Hp} {xs : List V} (e : But p H H') (n : a ≠ p) (h : SqL K H a xs) : SqL K H' a xs := by
  rcases h with (h | ⟨o, h⟩) | h
  · exact .inl (.inl (e _ _ n h))
  · exact .inl (.inr ⟨o, e _ _ n h⟩)
  · exact .inr h
end Ef
namespace Ef
open PySem PySem.Spec PyProof.Rows L2
/-! ### promises of defs that are called where no repr is under way -/
structure FnG (P : Program) (w : World) (K : PySem.W.Frag) (mg : Str → Option Value) (base : Heap) (CX : CXT) (k : Nat) (f : Addr) (fd : FuncData) (ps : List Str) (sp : Sp) : Prop where
  len : ∀ vs H Q E, sp vs H Q E → vs.length = ps.length
  run : ∀ (A : Around), A.guards = some [] → ∀ (outer : List Env) (s : Shared) (H : Hp) (args : Args) (us : List Value) (vs : List V) (Q : VK) (E : XK),
    Room k A → Env0 P w K mg base A outer s H → BindsTo s fd args (ps.zip us) → Vals vs us → sp vs H Q E →
      codeAny (model P w) A (.call (.ref f) args) (CR CX outer P w H s Q E) s
section
variable {P : Program} {w : World} {K : PySem.W.Frag} {mg : Str → Option Value} {base : Heap} {CX : CXT}
theorem FnG.of {k : Nat} {f : Addr} {fd : FuncData} {ps : List Str} {sp : Sp} (F : FnOk P w K mg base CX k f fd ps sp) : FnG P w K mg base CX k f fd ps sp :=
  ⟨F.len, fun A _ outer s H args us vs Q E => F.run A outer s H args us vs Q E⟩
theorem Fun_okG {x qual : Str} {st : Stmt} {f : Addr} {fd : FuncData} {N ps : List Str} {k : Nat} {sp : Sp} (F : Fun K x qual st f fd) (S : FnScope N ps (defScope st)) (len : ∀ vs H Q E, sp vs H Q E → vs.length = ps.length)
    (bod : ∀ (cdv : Value) (A : Around) (outer : List Env) (s : Shared) (H : Hp) (vs : List V) (Q : VK) (E : XK), A.guards = some [] → Room k (A.deeper (envOfC qual (defScope st) s.heap.objs.size f cdv)) → sp vs H Q E →
      ∃ t, PSs (cxOf CX P w K mg base N qual (defScope st) f cdv A outer s H E) (defBody st) t ∧ t { nx := fun _ H' => Q .non H', rt := Q } (start N vs) H) :
    FnG P w K mg base CX (k + 1) f fd ps sp := by
  obtain ⟨oc, od, kV, doc, pm, an, cdv, ct, osl, rfl, lk, hcd⟩ := F.ex
  refine ⟨len, fun A gd outer s H args us vs Q E room e0 bnd rel wish => ?_⟩
  have kin : K.In s.heap := e0.mod.kin.keeps fun b o z => (e0.bs b o z).1
  have nolim : s.heap.NoLimit := e0.mod.nolimit.keeps fun b o z => (e0.bs b o z).1
  refine codeAny_call_function room.depth (kin _ _ lk) rfl S.co S.gen rfl (PySem.W.codeRec_of kin hcd) (bnd _ _ _ _ ?_)
  refine wpAny_newFunctionEnv_cells S.kind ?_ fun env hev s1 ic => ?_
  · rintro ⟨n, v⟩ hy
    rcases S.par n (List.of_mem_zip hy).1 with z | z
    · exact .inl z
    · exact .inr ⟨z, PySem.W.cellsFrom_some _ _ _ (.inl z)⟩
  · subst hev
    refine ⟨nolim.keeps ic.toInCall.keep, codeAny_func ?_⟩
    obtain ⟨t, pt, rd⟩ := bod cdv A outer s H vs Q E gd (room.deeper _) wish
    have J0 := inv_start (CX := CX) (E := E) S room.hd e0 (len _ _ _ _ wish) rel ic
    refine wpAny_mono (pt.run [] s1 (start N vs) H _ J0 rd) (fun fl s' got => ?_) fun e s' got => got
    cases fl with
    | brk =>
      obtain ⟨_, _, _, z⟩ := got
      exact z.elim
    | cont =>
      obtain ⟨_, _, _, z⟩ := got
      exact z.elim
    | next =>
      obtain ⟨σ', H', J, z⟩ := got
      exact ⟨V.non, H', J.os, J.bare, J.base, J.hok, (rfl : RelV V.non Value.none), z⟩
    | ret u =>
      obtain ⟨v, σ', H', J, rv, z⟩ := got
      exact ⟨v, H', J.os, J.bare, J.base, J.hok, rv, z⟩
end
/-- the same of a def that lets no exception out -/
theorem Fun_ok0 {P : Program} {w : World} {K : PySem.W.Frag} {mg : Str → Option Value} {base : Heap} {x qual : Str} {st : Stmt} {f : Addr} {fd : FuncData} {N ps : List Str} {k : Nat} {sp : Sp} (F : Fun K x qual st f fd) (S : FnScope N ps (defScope st)) (len : ∀ vs H Q E, sp vs H Q E → vs.length = ps.length)
    (bod : ∀ (cdv : Value) (A : Around) (outer : List Env) (s : Shared) (H : Hp) (vs : List V) (Q : VK) (E : XK), A.guards = some [] → Room k (A.deeper (envOfC qual (defScope st) s.heap.objs.size f cdv)) → sp vs H Q E →
      ∃ t, PSs (cxOf CX0 P w K mg base N qual (defScope st) f cdv A outer s H E).nox (defBody st) t ∧ t { nx := fun _ H' => Q .non H', rt := Q } (start N vs) H) :
    FnG P w K mg base CX0 (k + 1) f fd ps sp :=
  Fun_okG F S len fun cdv A outer s H vs Q E gd room wish => by
    obtain ⟨t, pt, rd⟩ := bod cdv A outer s H vs Q E gd room wish
    exact ⟨t, pt.nox, rd⟩
section
variable {X : Cx} {CX : CXT} {k : Nat} {f : Addr} {fd : FuncData} {ps : List Str} {sp : Sp} {E : XK} {x : Str} {p pos : Pos} {e : Expr} {es : List Expr} {t : TA}
theorem run_G {pins : List (Addr × Obj)} {σ : L2.St} {H : Hp} {s : Shared} {Q : VK} {us : List Value} {vs : List V} (F : FnG X.prog X.w X.K X.mg X.base CX k f fd ps sp)
    (gd : X.A.guards = some []) (room : Room k X.A) (bnd : Binds X.K fd ps []) (pass : Passes CX X E) (I : Inv X pins σ H s) (rel : Vals vs us) (wish : sp vs H Q E) :
    wpAny (model X.prog X.w) X.A (call (.ref f) us) (EP X pins σ Q) X.xe s := by
  have hl : (us ++ []).length = ps.length := by
    rw [List.append_nil, ← rel.length]
    exact F.len _ _ _ _ wish
  have b1 := bnd s us I.kIn hl
  rw [List.append_nil] at b1
  refine wpAny_call (codeAny_mono (F.run X.A gd X.stack s H ⟨us, []⟩ us vs Q E room I.env0 b1 rel wish) fun res s' got => ?_)
  cases res with
  | error z => exact pass pins σ H s z s' I got
  | ok fl =>
    cases fl with
    | ret u => exact I.after got
    | next => exact got.elim
    | brk => exact got.elim
    | cont => exact got.elim
/-- f(e, ..) of a def whose promise holds where no repr is under way -/
theorem pe_callG (F : FnG X.prog X.w X.K X.mg X.base CX k f fd ps sp) (gd : X.A.guards = some []) (room : Room k X.A) (hg : Gl X x) (hm : X.mg x = some (.ref f))
    (hk : PySem.W.keepIn X.K (.ref f) = true) (bnd : Binds X.K fd ps []) (pass : Passes CX X E) (ha : PA X (e :: es) t)
    (a1 : (x == ("__debug__" : Str)) = false := by decide) (a2 : starEach (e :: es) X.env = (false, eval e X.env) :: starEach es X.env := by rfl)
    (a3 : (backTo pos (starEach es X.env)).any (fun z => z.1) = false := by rfl) :
    PE X (.Call (.Name x p) (e :: es) [] pos) (tCall sp [] E t) := by
  refine ⟨fun pins s σ H Q I h => wpAny_Call_Name_kw (ld_glob I hg hm ?_ a1)⟩
  refine PySem.W.callWith_K (h₀ := X.base) I.ok.mod.kin hk (thn (ha.run pos pins s σ H _ I h) fun us s1 z => ?_) a2 a3
  obtain ⟨vs, H1, I1, r, q⟩ := z
  rw [List.append_nil] at q
  exact ⟨I1.kIn, run_G F gd room bnd pass I1 r q⟩
end
/-! ### the law's own end, where no repr is under way -/
def scriptObj (vs : List Value) : Obj := { cls := .type "list", data := .seq vs.toArray }
def scriptHp (K : PySem.W.Frag) (a : Addr) (vs : List Value) (ns : List Int) : Hp := fun b => if b = a ∧ K.lookup a = none then some (.frz (scriptObj vs) (.lst (ns.map V.int))) else none
section
variable {K : PySem.W.Frag} {a : Addr} {vs : List Value} {ns : List Int}
theorem scriptHp_only : Only (scriptHp K a vs ns) := fun b => by
  unfold scriptHp
  by_cases c : b = a ∧ K.lookup a = none
  · exact .inr ⟨_, _, if_pos c⟩
  · exact .inl (if_neg c)
theorem scriptHp_some {b : Addr} {u : HO} (h : scriptHp K a vs ns b = some u) : b = a ∧ K.lookup a = none ∧ u = .frz (scriptObj vs) (.lst (ns.map V.int)) := by
  unfold scriptHp at h
  by_cases c : b = a ∧ K.lookup a = none
  · rw [if_pos c] at h
    exact ⟨c.1, c.2, (Option.some.inj h).symm⟩
  · rw [if_neg c] at h
    cases h
theorem scriptHp_none {b : Addr} {o : Obj} {h : Heap} (ha : h.get? a = some (scriptObj vs)) (e : h.get? b = some o) (hd : ∀ its n, o.data ≠ .seq its n) : scriptHp K a vs ns b = none := by
  cases q : scriptHp K a vs ns b with
  | none => rfl
  | some u =>
    obtain ⟨rfl, _, _⟩ := scriptHp_some q
    rw [ha] at e
    cases e
    exact absurd rfl (hd vs.toArray _)
theorem lawG {l : PySem.W.OpenLaw} {n k : Nat} {q : Program} {loose : List Str} {XP : (Str → Option Value) → Heap → Prop} {YP : World → Heap → Prop} {d : DefRec} {K : Params → PySem.W.Frag} {sp : World → Sp} {x : Str}
    (hn : l.most = some n) (hn2 : n ≤ sizeLine) (hdf : d.params.defaults = []) (room : Room k callerA)
    (hY : ∀ (w : World) (h : Heap), YP w h → (K w.params).In h)
    (F : ∀ (w : World) (mg : Str → Option Value) (fa : Addr) (h : Heap), (K w.params).In h → h.Ns mainGlobals mg → mg d.name = some (.ref fa) →
      ∃ fd : FuncData, (∀ (s : Shared) (u : Value), BindsTo s fd ⟨[u], []⟩ [(x, u)]) ∧
        ∀ base : Heap, (K w.params).In base → base.Ns mainGlobals mg → FnG l.prog w (K w.params) mg base CX0 k fa fd [x] (sp w))
    (hsp : ∀ (w : World) (H : Hp) (a : Addr) (ns : List Int), ns.length ≤ n → Only H → SqL (K w.params) H a (ns.map V.int) → sp w [.ref a] H (fun v _ => v = .bl true) fun _ _ _ => False) :
    PySem.W.WalkO q loose XP YP l.row.toRowW d [] (fun f vs => PySem.call f vs) := by
  refine Att.attach_call hn hdf fun w s₀ s₁ mg mb fa o pm cd doc a vs ns G Y ho hd hcd hmg hobj hints hlen hgen => ?_
  have kin := hY w _ Y
  obtain ⟨fd, bnd, FF⟩ := F w mg fa _ kin G.T.g hmg
  have ha : s₁.heap.get? a = some (scriptObj vs) := hobj
  have short : ns.length ≤ sizeLine := Nat.le_trans hlen hn2
  have keep0 : ∀ {b : Addr} {o : Obj}, s₁.heap.get? b = some o → scriptHp (K w.params) a vs ns b = none → (hidT s₁.heap (scriptHp (K w.params) a vs ns)).get? b = some o := fun e z => hidT_get e z
  have nsK : ∀ {b : Addr} {m : Str → Option Value}, s₁.heap.Ns b m → (hidT s₁.heap (scriptHp (K w.params) a vs ns)).Ns b m := by
    rintro b m ⟨o, es, ep, e, dd, r⟩
    exact ⟨o, es, ep, keep0 e (scriptHp_none ha e fun its n z => by rw [dd] at z; cases z), dd, r⟩
  have kinB : (K w.params).In (hidT s₁.heap (scriptHp (K w.params) a vs ns)) := fun b o e => keep0 (kin b o e) (by
    cases z : scriptHp (K w.params) a vs ns b with
    | none => rfl
    | some u =>
      obtain ⟨rfl, z2, _⟩ := scriptHp_some z
      rw [z2] at e
      cases e)
  have hM : Mod (K w.params) mg (hidT s₁.heap (scriptHp (K w.params) a vs ns)) := by
    obtain ⟨mc, h1, h2⟩ := G.T.nolimit
    exact ⟨kinB, nsK G.T.g, ⟨mb, nsK G.T.b, G.T.builtins⟩, ⟨mc, nsK h1, h2⟩⟩
  have hok : HOk l.prog w (scriptHp (K w.params) a vs ns) s₁.heap := fun b u z => by
    obtain ⟨rfl, _, rfl⟩ := scriptHp_some z
    exact ⟨ha, by rw [List.length_map]; exact short, vs, _, vals_ints hints, ha⟩
  have hS : SqL (K w.params) (scriptHp (K w.params) a vs ns) a (ns.map V.int) := by
    cases hk : (K w.params).lookup a with
    | none => exact .inl (.inr ⟨scriptObj vs, if_pos ⟨rfl, hk⟩⟩)
    | some o =>
      have e := kin a o hk
      rw [ha] at e
      obtain rfl := Option.some.inj e
      exact .inr ⟨_, vs.toArray, _, hk, rfl, rfl, rfl, by rw [List.size_toArray, hints.length]; exact short, by simpa using vals_ints hints⟩
  have e0 : Env0 l.prog w (K w.params) mg (hidT s₁.heap (scriptHp (K w.params) a vs ns)) callerA [] s₁ (scriptHp (K w.params) a vs ns) :=
    ⟨rfl, hM, fun b o e => of_hidT e, Nat.le_of_eq (hidT_size _ _), trivial, fun b z => absurd (show b ∈ ([] : List Addr) from z) (by simp), hok, .of_eq hgen⟩
  refine codeAny_mono ((FF _ kinB (nsK G.T.g)).run callerA rfl [] s₁ _ ⟨[.ref a], []⟩ [.ref a] [.ref a] _ _ room e0 (bnd s₁ (.ref a)) (.cons rfl .nil) (hsp w _ a ns hlen scriptHp_only hS)) fun r s' got => ?_
  cases r with
  | error e => exact got.elim
  | ok fl =>
    cases fl with
    | next => exact got.elim
    | brk => exact got.elim
    | cont => exact got.elim
    | ret u =>
      obtain ⟨v, H', os, bare, un, hok', rv, z⟩ := got
      obtain rfl : v = .bl true := z
      obtain rfl : u = Value.bool true := rv
      refine ⟨rfl, OldK.of_keep fun b o e => ?_, os, bare⟩
      cases z : scriptHp (K w.params) a vs ns b with
      | none => exact un.keep b o e z (fun y => absurd (show b ∈ ([] : List Addr) from y) (by simp)) (by simp)
      | some u =>
        obtain ⟨_, _, rfl⟩ := scriptHp_some z
        have z2 := un.frzs b _ _ z
        obtain ⟨e1, _⟩ := hok b _ z
        obtain ⟨e2, _⟩ := hok' b _ z2
        rw [e] at e1
        obtain rfl := Option.some.inj e1
        exact e2
end
/-! ### repr of data -/
theorem Dp_ref {K : PySem.W.Frag} {H : Hp} {v : V} {d : PyData} (h : Dp K H v d) : (∃ a, v = .ref a) ∨ (v = .non ∧ d = .none) ∨ (∃ b, v = .bl b ∧ d = .bool b) ∨ (∃ i, v = .int i ∧ d = .int i) ∨ ∃ x, v = .str x ∧ d = .str x := by
  cases h with
  | non => exact .inr (.inl ⟨rfl, rfl⟩)
  | bl b => exact .inr (.inr (.inl ⟨b, rfl, rfl⟩))
  | int i => exact .inr (.inr (.inr (.inl ⟨i, rfl, rfl⟩)))
  | str x => exact .inr (.inr (.inr (.inr ⟨x, rfl, rfl⟩)))
  | lst _ _ => exact .inl ⟨_, rfl⟩
  | tup _ _ => exact .inl ⟨_, rfl⟩
/-- data that can be shown: not deeper than dp, not heavier than wt -/
structure Sh (dp wt : Nat) (d : PyData) : Prop where
  can : d.canLay0 = true
  dep : d.depth ≤ dp
  shw : d.showable = true
  lvs : d.leavesShort 200 = true
  wgt : d.weight ≤ wt
structure ShAll (dp wt : Nat) (ds : List PyData) : Prop where
  can : PyData.canLayAll0 ds = true
  dep : PyData.depthAll ds ≤ dp
  shw : PyData.showableAll ds = true
  lvs : PyData.leavesShortAll 200 ds = true
  wgt : PyData.weightAll ds ≤ wt
theorem Sh.mono {dp wt dp' wt' : Nat} {d : PyData} (h : Sh dp wt d) (h1 : dp ≤ dp') (h2 : wt ≤ wt') : Sh dp' wt' d := ⟨h.can, Nat.le_trans h.dep h1, h.shw, h.lvs, Nat.le_trans h.wgt h2⟩
theorem ShAll.mono {dp wt dp' wt' : Nat} {ds : List PyData} (h : ShAll dp wt ds) (h1 : dp ≤ dp') (h2 : wt ≤ wt') : ShAll dp' wt' ds := ⟨h.can, Nat.le_trans h.dep h1, h.shw, h.lvs, Nat.le_trans h.wgt h2⟩
theorem Sh.none : Sh 0 0 .none := ⟨rfl, Nat.le_refl _, rfl, rfl, Nat.le_refl _⟩
theorem Sh.bool (b : Bool) : Sh 0 0 (.bool b) := ⟨rfl, Nat.le_refl _, rfl, rfl, Nat.le_refl _⟩
theorem Sh.int {b : Nat} (h0 : 0 < b) (h6 : b ≤ 600) {i : Int} (h : i.natAbs < 2 ^ b) : Sh 0 b (.int i) := by
  have l2 := PySem.Flt.log2_lt_of h0 h
  refine ⟨rfl, Nat.le_refl _, decide_eq_true (by omega), decide_eq_true ?_, ?_⟩
  · have h1 : i.natAbs < 10 ^ 199 := Nat.lt_of_lt_of_le h (Nat.le_trans (Nat.pow_le_pow_right (by decide) h6) (by decide +kernel))
    have e := int_text_length_le10 (k := 199) (by decide) h1
    show (Str.ofString (toString i)).length ≤ 200
    rw [PySem.ofString_length]
    exact e
  · show (if i == 0 then 0 else i.natAbs.log2 + 1) ≤ b
    split <;> omega
theorem Sh.tup {dp wt : Nat} {ds : List PyData} (h : ShAll dp wt ds) : Sh (dp + 1) wt (.tuple ds) := ⟨h.can, Nat.add_le_add_right h.dep 1, h.shw, h.lvs, h.wgt⟩
theorem Sh.lst {dp wt : Nat} {ds : List PyData} (h : ShAll dp wt ds) : Sh (dp + 1) wt (.list ds) := ⟨h.can, Nat.add_le_add_right h.dep 1, h.shw, h.lvs, h.wgt⟩
theorem ShAll.nil : ShAll 0 0 [] := ⟨rfl, Nat.le_refl _, rfl, rfl, Nat.le_refl _⟩
theorem ShAll.cons {dp wt wt' : Nat} {d : PyData} {ds : List PyData} (h : Sh dp wt d) (t : ShAll dp wt' ds) : ShAll dp (wt + 1 + wt') (d :: ds) := by
  refine ⟨?_, Nat.max_le.mpr ⟨h.dep, t.dep⟩, ?_, ?_, ?_⟩
  · show (d.canLay0 && PyData.canLayAll0 ds) = true
    rw [h.can, t.can]
    rfl
  · show (d.showable && PyData.showableAll ds) = true
    rw [h.shw, t.shw]
    rfl
  · show (d.leavesShort 200 && PyData.leavesShortAll 200 ds) = true
    rw [h.lvs, t.lvs]
    rfl
  · show d.weight + 1 + PyData.weightAll ds ≤ wt + 1 + wt'
    have h1 := h.wgt
    have h2 := t.wgt
    omega
theorem ShAll.ints {b : Nat} (h0 : 0 < b) (h6 : b ≤ 600) : ∀ {ns : List Int}, (∀ x ∈ ns, x.natAbs < 2 ^ b) → ShAll 0 ((b + 1) * ns.length) (ns.map PyData.int)
  | [], _ => ShAll.nil
  | x :: r, h => by
    have h1 := ShAll.cons (Sh.int h0 h6 (h x List.mem_cons_self)) (ShAll.ints h0 h6 fun y hy => h y (List.mem_cons_of_mem _ hy))
    exact h1.mono (Nat.le_refl _) (by rw [List.length_cons, Nat.mul_succ]; omega)
theorem Sh.shaped {dp wt : Nat} {d : PyData} (h : Sh dp wt d) (h1 : dp ≤ 64) : SeqAt.shaped d = true := by
  unfold SeqAt.shaped
  rw [h.can]
  exact decide_eq_true (Nat.le_trans h.dep h1)
theorem Sh.fits {dp wt : Nat} {d : PyData} (h : Sh dp wt d) (h1 : wt ≤ 80000) : d.shown.length ≤ sizeLine := by
  have h2 := PyData.shown_le 200 (by decide) d h.lvs
  have h3 := h.wgt
  have h4 : (200 + 2) * d.weight ≤ 202 * 80000 := Nat.mul_le_mul (by omega) (by omega)
  have h5 : sizeLine = 16777216 := by decide
  omega
theorem dp_ints {K : PySem.W.Frag} {H : Hp} : ∀ ns : List Int, DpAll K H (ns.map V.int) (ns.map PyData.int)
  | [] => .nil
  | n :: r => .cons (.int n) (dp_ints r)
theorem eqvAll_ints : ∀ ns : List Int, PyData.eqvAll (ns.map PyData.int) (ns.map PyData.int) = true
  | [] => rfl
  | n :: r => by
    show (PyData.eqv (.int n) (.int n) && PyData.eqvAll (r.map PyData.int) (r.map PyData.int)) = true
    rw [eqvAll_ints r]
    show ((n == n) && true) = true
    rw [beq_self_eq_true]
    rfl
section
variable {X : Cx}
/-- repr(x), x data: its text -/
theorem call_reprD (gd : X.A.guards = some []) (hu : X.A.units + 66 < cLine) : CallR X (.builtin "repr") (fun xs H Q => ∃ v d, xs = [v] ∧ Dp X.K H v d ∧ Sh 60 80000 d ∧ Q (.str d.shown) H) := by
  intro pins s σ H xs us Q I r h
  obtain ⟨v, d, rfl, hD, hd, q⟩ := h
  have hsh := hd.shaped (by decide)
  have hsz := hd.fits (by decide)
  obtain ⟨u, rfl, ru⟩ := vals1 r
  rcases Dp_ref hD with ⟨a, rfl⟩ | ⟨rfl, rfl⟩ | ⟨b, rfl, rfl⟩ | ⟨i, rfl, rfl⟩ | ⟨x, rfl, rfl⟩
  · obtain rfl : u = Value.ref a := ru
    obtain ⟨as, rd⟩ := Dp.reads I d _ _ hD rfl
    have hdp := hd.dep
    refine repr_of_reads' rd hd.shw (PyData.noDict_hsm (PyData.hasDict_of_canLay d hd.can)) gd (by omega) (fun _ _ e => e) (fun h' u tk hk => ?_) hsz
    exact ⟨.str _, H, I.kept hk, ⟨u, rfl⟩, q⟩
  · obtain rfl : u = Value.none := ru
    exact P.repr_of_none ⟨.str _, H, I.tok _, ⟨_, rfl⟩, q⟩
  · obtain rfl : u = Value.bool b := ru
    exact P.repr_of_bool ⟨.str _, H, I.tok _, ⟨_, rfl⟩, q⟩
  · obtain ⟨t, rfl⟩ := ru
    exact P.repr_of_int (of_decide_eq_true hd.shw) ⟨.str _, H, I.tok _, ⟨_, rfl⟩, q⟩
  · obtain ⟨t, rfl⟩ := ru
    exact P.repr_of_str ⟨.str _, H, I.tok _, ⟨_, rfl⟩, q⟩ hsz
/-- a ** b of greater numbers -/
theorem op_powB : OpR X (binaryOp .Pow) (rI (fun i j => 0 ≤ j ∧ (Builtin.Int.intBits i : Int) * j ≤ 2 ^ 27) fun i j => .int (i ^ j.toNat)) := opI fun _ _ _ _ _ _ _ hc q => pow_int hc.1 hc.2 q
/-- set(t), t a tuple of ints -/
theorem cr_setT (hc : X.calm = true) : CallR X (.type "set") (fun xs H Q => ∃ (l : Addr) (ns : List Int), xs = [.ref l] ∧ SqT X.K H l (ns.map V.int) ∧ ns.length ≤ 1000 ∧
    ∀ (p : Addr) (c : Nat), H p = none → Q (.ref p) (upd H p (SetO X.w p (fun j => decide (j ∈ ns)) c))) := by
  intro pins s σ H xs us Q I r h
  obtain ⟨l, ns, rfl, hq, hl, q⟩ := h
  obtain ⟨u, rfl, ru⟩ := vals1 r
  obtain rfl : u = Value.ref l := ru
  obtain ⟨its, rv, pt, hz⟩ := I.tuple hq
  refine call_set_tupI ns (I.ok.hd hc) (show s.heap.IsTuple l its.toArray from pt) (ints_of_vals rv) (by unfold scanBound; omega) fun h' tk c R1 hcn k => ?_
  exact ⟨.ref _, _, I.laid (t' := tk) k (Nat.le_refl _) (setO_new R1), rfl, q _ c (I.hok.fresh (Nat.le_refl _))⟩
end

/-! ### the same rules with the written part as a letter (for comprehensions) -/
section
variable {X : Cx} (K : PySem.W.Frag)
theorem ix_listK (h : X.K = K := by rfl) : IxR X (rIxL K) := h ▸ ix_list
theorem ix_tupK (h : X.K = K := by rfl) : IxR X (rIxT K) := h ▸ ix_tup
theorem op_inK (h : X.K = K := by rfl) : OpR X (compareOp .In) (rIn K false) := h ▸ op_in_seq
theorem op_notInK (h : X.K = K := by rfl) : OpR X (compareOp .NotIn) (rIn K true) := h ▸ op_notIn_seq
def rLenK (K : PySem.W.Frag) : List V → Hp → VK → Prop := fun xs H Q => ∃ p ys, xs = [.ref p] ∧ (SqL K H p ys ∨ SqT K H p ys) ∧ Q (.int ys.length) H
theorem call_lenK (h : X.K = K := by rfl) : CallR X (.builtin "len") (rLenK K) := h ▸ call_len_seq
def rReprK (K : PySem.W.Frag) : List V → Hp → VK → Prop := fun xs H Q => ∃ v d, xs = [v] ∧ Dp K H v d ∧ Sh 60 80000 d ∧ Q (.str d.shown) H
theorem call_reprK (gd : X.A.guards = some []) (hu : X.A.units + 66 < cLine) (h : X.K = K := by rfl) : CallR X (.builtin "repr") (rReprK K) := h ▸ call_reprD gd hu
theorem call_isiK1 (h : X.K = K := by rfl) : CallR X (.builtin "isinstance") (rIsi K) := h ▸ call_isi
def rTupleK (K : PySem.W.Frag) : List V → Hp → VK → Prop := fun xs H Q => ∃ p ys, xs = [.ref p] ∧ ((SqL K H p ys ∧ ∀ l, H l = none → Q (.ref l) (upd H l (.tup ys))) ∨ (SqT K H p ys ∧ Q (.ref p) H))
theorem call_tupleK (h : X.K = K := by rfl) : CallR X (.type "tuple") (rTupleK K) := h ▸ call_tuple_of
def rListK (K : PySem.W.Frag) : List V → Hp → VK → Prop := fun xs H Q => ∃ p ys, xs = [.ref p] ∧ (SqL K H p ys ∨ SqT K H p ys) ∧ ∀ l, H l = none → Q (.ref l) (upd H l (.lst ys))
theorem call_listK (h : X.K = K := by rfl) : CallR X (.type "list") (rListK K) := h ▸ call_list_of
theorem op_eqDK (hu : X.A.units + 64 < cLine) (h : X.K = K := by rfl) : OpR X (compareOp .Eq) (rEqD K) := h ▸ op_eqD hu
theorem op_neDK (hu : X.A.units + 64 < cLine) (h : X.K = K := by rfl) : OpR X (compareOp .NotEq) (rNeD K) := h ▸ op_neD hu
end
end Ef
namespace Ef
open PySem PySem.Spec PyProof.Rows L2
/-! ### tuples: sums, parts, the other way round -/
theorem Same.seqT {K : PySem.W.Frag} {H H' : Hp} {a : Addr} {xs : List V} (e : Same H H') (h : SqT K H a xs) : SqT K H' a xs := by
  rcases h with (h | ⟨o, h⟩) | h
  · exact .inl (.inl (e _ _ h))
  · exact .inl (.inr ⟨o, e _ _ h⟩)
  · exact .inr h
theorem But.seqT {K : PySem.W.Frag} {p a : Addr} {H H' : Hp} {xs : List V} (e : But p H H') (n : ∀ o, H p = some o → a = p → False) (h : SqT K H a xs) : SqT K H' a xs := by
  rcases h with (h | ⟨o, h⟩) | h
  · exact .inl (.inl (e _ _ (fun z => n _ (z ▸ h) z) h))
  · exact .inl (.inr ⟨o, e _ _ (fun z => n _ (z ▸ h) z) h⟩)
  · exact .inr h
/-- t + u -/
def rCatS (K : PySem.W.Frag) : R2 := fun x y H Q => ∃ a b xs ys, x = .ref a ∧ y = .ref b ∧ SqT K H a xs ∧ SqT K H b ys ∧ xs.length + ys.length ≤ sizeLine ∧ ∀ p H', Same H H' → SqT K H' p (xs ++ ys) → Q (.ref p) H'
/-- t[lo:hi] -/
def rSlS (K : PySem.W.Frag) : V → Option Int → Option Int → Hp → VK → Prop := fun x lo hi H Q => ∃ a xs, x = .ref a ∧ SqT K H a xs ∧ ∀ p H', Same H H' → SqT K H' p (cutV xs lo hi) → Q (.ref p) H'
theorem cut_whole {xs : List V} {lo hi : Option Int} (h : HT.sIx xs.length 0 lo = 0 ∧ HT.sIx xs.length xs.length hi = xs.length) : cutV xs lo hi = xs := by
  unfold cutV
  rw [h.1, h.2]
  show (xs.drop 0).take (xs.length - 0) = xs
  rw [List.drop_zero, Nat.sub_zero]
  exact List.take_length
section
variable {X : Cx} (K : PySem.W.Frag)
theorem op_catS (h : X.K = K := by rfl) : OpR X (binaryOp .Add) (rCatS K) := by
  subst h
  intro pins s σ H x y v u Q I rx ry h
  obtain ⟨a, b, xs, ys, rfl, rfl, ha, hb, hz, q⟩ := h
  refine op_catA pins s σ H _ _ v u Q I rx ry ⟨a, b, xs, ys, rfl, rfl, ha, hb, hz, fun z => ?_, fun _ z => ?_, fun _ _ p np => ?_⟩
  · subst z
    exact q b H (Same.refl H) hb
  · subst z
    refine q a H (Same.refl H) ?_
    rw [List.append_nil]
    exact ha
  · exact q p _ (same_new np) (SqT.of upd_same)
theorem sl_tupS (h : X.K = K := by rfl) : SlR X (rSlS K) := by
  subst h
  intro pins s σ H x v vl vu lo hi sl Q I rx hs pl pu h
  obtain ⟨a, xs, rfl, hx, q⟩ := h
  refine sl_tupA pins s σ H _ v vl vu lo hi sl Q I rx hs pl pu ⟨a, xs, rfl, hx, fun z => ?_, fun _ p np => ?_⟩
  · refine q a H (Same.refl H) ?_
    rw [cut_whole z]
    exact hx
  · exact q p _ (same_new np) (SqT.of upd_same)
end
theorem fm_congr {α β : Type} {f g : α → Option β} : ∀ l : List α, (∀ x ∈ l, f x = g x) → l.filterMap f = l.filterMap g
  | [], _ => rfl
  | x :: r, h => by
    have h1 := h x List.mem_cons_self
    have h2 := fm_congr r fun y hy => h y (List.mem_cons_of_mem _ hy)
    cases e : f x with
    | none => rw [List.filterMap_cons_none e, List.filterMap_cons_none (h1 ▸ e), h2]
    | some b => rw [List.filterMap_cons_some e, List.filterMap_cons_some (h1 ▸ e), h2]
theorem range_pick {α : Type} : ∀ (n : Nat) (ys : List α), ys.length = n → (List.range n).filterMap (fun m => ys[m]?) = ys
  | 0, ys, h => by
    rw [List.length_eq_zero_iff.mp h]
    rfl
  | n + 1, ys, h => by
    have hne : ys ≠ [] := fun z => by
      rw [z] at h
      cases h
    have hl : ys.dropLast.length = n := by
      rw [List.length_dropLast]
      omega
    have e : ys = ys.dropLast ++ [ys.getLast hne] := (List.dropLast_concat_getLast hne).symm
    rw [List.range_succ, List.filterMap_append]
    have e1 : (List.range n).filterMap (fun m => ys[m]?) = ys.dropLast := by
      have e3 : (List.range n).filterMap (fun m => ys[m]?) = (List.range n).filterMap (fun m => ys.dropLast[m]?) := by
        refine fm_congr _ fun m hm => ?_
        have hm' : m < ys.dropLast.length := by
          rw [hl]
          exact List.mem_range.mp hm
        have e4 : (ys.dropLast ++ [ys.getLast hne])[m]? = ys.dropLast[m]? := List.getElem?_append_left hm'
        rw [← e4, List.dropLast_concat_getLast hne]
      rw [e3]
      exact range_pick n ys.dropLast hl
    have e2 : [n].filterMap (fun m => ys[m]?) = [ys.getLast hne] := by
      have : ys[n]? = some (ys.getLast hne) := by
        rw [List.getLast_eq_getElem hne, ← List.getElem?_eq_getElem]
        congr 1
        omega
      rw [List.filterMap_cons_some this]
      rfl
    rw [e1, e2]
    exact e.symm
theorem pick_back (xs : Array Value) : ((List.range xs.size).filterMap fun (m : Nat) => xs[(((xs.size : Int) - 1) + (m : Int) * (-1)).toNat]?).toArray = xs.toList.reverse.toArray := by
  congr 1
  have h : xs.toList.reverse.length = xs.size := by
    rw [List.length_reverse, Array.length_toList]
  rw [← range_pick xs.size xs.toList.reverse h]
  refine fm_congr _ fun m hm => ?_
  have hm' : m < xs.size := List.mem_range.mp hm
  have e : (((xs.size : Int) - 1) + (m : Int) * (-1)).toNat = xs.size - 1 - m := by omega
  rw [e, List.getElem?_reverse (by rw [Array.length_toList]; exact hm'), Array.length_toList, Array.getElem?_toList]
section
variable {prog : Program} {w : World} {A : Around} {E : Value → Shared → Prop} {s : Shared}
theorem tuple_back {t sl : Addr} {items : Array Value} {vl vu vs : Value} {Q : Value → Shared → Prop} (ht : IsTup s.heap t items) (hs : s.heap.IsSliceOf sl vl vu vs) (pl : PySem.IsPart vl none) (pu : PySem.IsPart vu none) (ps : PySem.IsPart vs (some (-1)))
    (h : Q (.ref s.heap.objs.size) { s with heap := s.heap.push { cls := .type "tuple", data := .seq items.toList.reverse.toArray } })
    (hsz : items.size ≤ sizeLine) : wpAny (model prog w) A (getItem (.ref t) (.ref sl)) Q E s := by
  have hfit : sizeOk (.seq items.toList.reverse.toArray) := by
    show items.toList.reverse.toArray.size ≤ sizeLine
    rw [List.size_toArray, List.length_reverse, Array.length_toList]
    exact hsz
  obtain ⟨os, hos, hcs, hds⟩ := id hs
  have tys : s.TypeIs (.ref sl) "slice" := ⟨os, hos, hcs⟩
  unfold getItem
  try with_reducible refine wpAny_holding ?_
  first | refine wpAny_bind (wpAny_pure ?_) | skip
  refine wpAny_bind (wpAny_sequenceKey ht.typeIs (by decide) ?_)
  refine wpAny_bind (wpAny_callSpecial?_slot (name := Str.ofString "__getitem__") ht.typeIs PyProof.Rows.slot_tuple_getitem
    (wpAny_call_entry PyProof.Rows.slot_tuple_getitem ht.typeIs PyProof.Rows.entry_tuple_getitem ?_ (PyProof.Rows.args_tuple_getitem _ _)))
  show wpAny _ _ (Builtin.Tuple.tupleItemsOf (.ref t) >>= _) _ _ s
  refine wpAny_bind (PyProof.Rows.tupleItemsOf_ ht ?_)
  refine wpAny_bind (wpAny_typeOf tys ?_)
  rw [if_pos (by decide)]
  have look : ∀ {B : Around} {E : Value → Shared → Prop} {R : Int × Int × Nat → Shared → Prop}, R (((items.size : Int) - 1), -1, items.size) s → wpAny (model prog w) B (Builtin.Slice.sliceApplied (.ref sl) (pure (items.size : Int))) R E s := fun {B E R} hR => by
    unfold Builtin.Slice.sliceApplied Builtin.Slice.sliceFields
    refine wpAny_bind (wpAny_bind (wpAny_field hos hds (x := vl) rfl (wpAny_bind (wpAny_field hos hds (x := vu) rfl (wpAny_bind (wpAny_field hos hds (x := vs) rfl (wpAny_pure ?_)))))))
    refine wpAny_bind (HT.slicePart_ ps ?_)
    show wpAny _ _ (if ((-1 : Int) == 0) = true then _ else _) _ _ s
    rw [if_neg (by decide)]
    refine wpAny_bind (HT.slicePart_ pl (wpAny_bind (HT.slicePart_ pu (wpAny_bind (wpAny_pure ?_)))))
    show wpAny _ _ (pure (((items.size : Int) - 1), (-1 : Int), Builtin.Slice.slicePlaces ((items.size : Int) - 1) (-1) (-1))) _ _ s
    have e : Builtin.Slice.slicePlaces ((items.size : Int) - 1) (-1) (-1) = items.size := by
      unfold Builtin.Slice.slicePlaces
      rw [if_neg (by decide)]
      by_cases c : ((items.size : Int) - 1) > -1
      · rw [if_pos c, show -(-1 : Int) = 1 from rfl, Int.ediv_one]
        omega
      · rw [if_neg c]
        omega
    rw [e]
    exact wpAny_pure hR
  refine wpAny_bind (look ?_)
  have no : ¬ ((((items.size : Int) - 1) == 0 && (-1 : Int) == 1 && items.size == items.size) = true) := by
    intro z
    rw [Bool.and_eq_true, Bool.and_eq_true] at z
    exact absurd z.1.2 (by decide)
  show wpAny _ _ (if (((items.size : Int) - 1) == 0 && (-1 : Int) == 1 && items.size == items.size) = true then _ else _) _ _ s
  rw [if_neg no, pick_back]
  first
    | exact wpAny_bind (m := Builtin.Tuple.tupleExact _) (wpAny_newObj_type (wpAny_pure ⟨_, rfl, wpAny_pure h⟩) hfit)
    | exact wpAny_bind (m := Builtin.Tuple.tupleExact _) (wpAny_newObj_type (wpAny_bind (wpAny_pure (wpAny_pure ⟨_, rfl, wpAny_pure h⟩))) hfit)
    | exact wpAny_bind (wpAny_bind (m := Builtin.Tuple.tupleExact _) (wpAny_newObj_type (wpAny_pure (wpAny_pure ⟨_, rfl, wpAny_pure h⟩)) hfit))
    | exact wpAny_bind (wpAny_bind (m := Builtin.Tuple.tupleExact _) (wpAny_newObj_type (wpAny_pure ⟨_, rfl, wpAny_pure h⟩) hfit))
end
/-! ### t[::-1] -/
def tRevT (K : PySem.W.Frag) (te : TE) : TE := fun σ H Q => te σ H fun x H1 => ∃ a xs, x = .ref a ∧ SqT K H1 a xs ∧ ∀ p, H1 p = none → Q (.ref p) (upd H1 p (.tup xs.reverse))
theorem pe_revT {X : Cx} {e : Expr} {te : TE} {k : Nat} {p1 p2 p3 pos : Pos} (he : PE X e te) : PE X (.Subscript e (.Slice none none (some (.UnaryOp .USub (.Constant (.int 1) k p1) p2)) p3) pos) (tRevT X.K te) := by
  refine ⟨fun pins s σ H Q I h => ?_⟩
  refine Subscript_ (thn (he.run pins s σ H _ I h) fun v s1 z1 => ?_)
  obtain ⟨x, H1, I1, r1, a, xs, ex, hx, q⟩ := z1
  subst ex
  cases r1
  have hst : PO X (some (.UnaryOp .USub (.Constant (.int 1) k p1) p2)) (tPart (tUn (rU fun i => .int (-i)) (tC (.int 1)))) := po_some (pe_un un_neg pe_int)
  refine wpAny_Slice (thn (po_none.run pins s1 σ H1 (fun o H2 => o = none ∧ H2 = H1) I1 ⟨rfl, rfl⟩) fun vl s2 z2 => ?_)
  obtain ⟨l, H2, I2, pl, rfl, rfl⟩ := z2
  refine thn (po_none.run pins s2 σ H2 (fun o H3 => o = none ∧ H3 = H2) I2 ⟨rfl, rfl⟩) fun vu s3 z3 => ?_
  obtain ⟨u, H3, I3, pu, rfl, rfl⟩ := z3
  refine thn (hst.run pins s3 σ H3 (fun o H4 => o = some (-1) ∧ H4 = H3) I3 ⟨1, rfl, -1, rfl, rfl, rfl⟩) fun vs s4 z4 => ?_
  obtain ⟨o, H4, I4, ps, rfl, rfl⟩ := z4
  have I5 : Inv X pins σ H4 { s4 with heap := s4.heap.push { cls := .type "slice", data := .fields #[vl, vu, vs] } } := I4.kept (t' := s4.toks) fun b ob z => Heap.get?_push_of_some _ z
  obtain ⟨its, r, ht, hz⟩ := I5.tuple hx
  show wpAny (model X.prog X.w) X.A (subscriptTail e (.Slice none none (some (.UnaryOp .USub (.Constant (.int 1) k p1) p2)) p3) (.ref a) (.ref s4.heap.objs.size)) (EP X pins σ Q) X.xe _
  refine tail_any (ops := [.ref a, .ref s4.heap.objs.size]) ht.typeIs (PyProof.Rows.slot_tuple_getitem.lookup) ?_ (by with_unfolding_all rfl)
  refine tuple_back ht (Heap.IsSliceOf.new _ vl vu vs) pl pu ps ?_ (by rw [List.size_toArray, ← r.length]; exact hz)
  refine ⟨.ref _, _, I5.laid (t' := s4.toks) (o := .tup xs.reverse) (fun b ob z => Heap.get?_push_of_some _ z) (Nat.le_refl _) ?_, rfl, q _ (I5.hok.fresh (Nat.le_refl _))⟩
  exact ⟨by rw [List.length_reverse]; exact hz, _, r.reverse, IsTup.new _ _⟩
end Ef
namespace Ef
open PySem PySem.Spec PyProof.Rows L2
/-! ### values of all sorts -/
mutual
theorem Dp.mono {K : PySem.W.Frag} {H H' : Hp} (s : Same H H') : ∀ {v : V} {d : PyData}, Dp K H v d → Dp K H' v d
  | _, _, .non => .non
  | _, _, .bl b => .bl b
  | _, _, .int i => .int i
  | _, _, .str x => .str x
  | _, _, .lst h t => .lst (s.seq h) (DpAll.mono s t)
  | _, _, .tup h t => .tup (Same.seqT s h) (DpAll.mono s t)
theorem DpAll.mono {K : PySem.W.Frag} {H H' : Hp} (s : Same H H') : ∀ {vs : List V} {ds : List PyData}, DpAll K H vs ds → DpAll K H' vs ds
  | _, _, .nil => .nil
  | _, _, .cons h t => .cons (Dp.mono s h) (DpAll.mono s t)
end
theorem DpAll.app {K : PySem.W.Frag} {H : Hp} : ∀ {xs ys : List V} {ds es : List PyData}, DpAll K H xs ds → DpAll K H ys es → DpAll K H (xs ++ ys) (ds ++ es)
  | _, _, _, _, .nil, t => t
  | _, _, _, _, .cons h r, t => .cons h (DpAll.app r t)
theorem dpAll_at {K : PySem.W.Frag} {H : Hp} : ∀ {xs : List V} {ds : List PyData}, DpAll K H xs ds → ∀ {i : Nat} {x : V}, xs[i]? = some x → ∃ d, ds[i]? = some d ∧ Dp K H x d
  | _, _, .nil, _, _, h => by cases h
  | _, _, .cons h _, 0, x, e => ⟨_, rfl, by rw [← Option.some.inj e]; exact h⟩
  | _, _, .cons _ t, i + 1, x, e => by
    rw [List.getElem?_cons_succ] at e ⊢
    exact dpAll_at t e
theorem dpAll_len {K : PySem.W.Frag} {H : Hp} : ∀ {xs : List V} {ds : List PyData}, DpAll K H xs ds → ds.length = xs.length
  | _, _, .nil => rfl
  | _, _, .cons _ t => congrArg (· + 1) (dpAll_len t)
theorem ShAll.app {dp w1 w2 : Nat} : ∀ {ds es : List PyData}, ShAll dp w1 ds → ShAll dp w2 es → ShAll dp (w1 + w2) (ds ++ es)
  | [], es, _, t => t.mono (Nat.le_refl _) (by omega)
  | d :: r, es, h, t => by
    have hc : (d.canLay0 && PyData.canLayAll0 r) = true := h.can
    have hs : (d.showable && PyData.showableAll r) = true := h.shw
    have hl : (d.leavesShort 200 && PyData.leavesShortAll 200 r) = true := h.lvs
    have hw : d.weight + 1 + PyData.weightAll r ≤ w1 := h.wgt
    have hd : max d.depth (PyData.depthAll r) ≤ dp := h.dep
    rw [Bool.and_eq_true] at hc hs hl
    rw [Nat.max_le] at hd
    have h1 : Sh dp d.weight d := ⟨hc.1, hd.1, hs.1, hl.1, Nat.le_refl _⟩
    have h2 : ShAll dp (PyData.weightAll r) r := ⟨hc.2, hd.2, hs.2, hl.2, Nat.le_refl _⟩
    exact (ShAll.cons h1 (ShAll.app h2 t)).mono (Nat.le_refl _) (by omega)
/-- all but what stands at p -/
def hide (p : Addr) (H : Hp) : Hp := fun b => if b = p then none else H b
theorem hide_ne {p b : Addr} {H : Hp} (n : b ≠ p) : hide p H b = H b := if_neg n
theorem hide_same (p : Addr) (H : Hp) : Same (hide p H) H := fun b o e => by
  by_cases c : b = p
  · unfold hide at e
    rw [if_pos c] at e
    cases e
  · rw [hide_ne c] at e
    exact e
theorem But.hide {p : Addr} {H H' : Hp} (s : But p H H') : Same (Ef.hide p H) (Ef.hide p H') := fun b o e => by
  by_cases c : b = p
  · unfold Ef.hide at e
    rw [if_pos c] at e
    cases e
  · rw [hide_ne c] at e ⊢
    exact s b o c e
theorem hide_lst {K : PySem.W.Frag} {p a : Addr} {H : Hp} {xs : List V} (n : a ≠ p) (h : H a = some (.lst xs)) : SqL K (hide p H) a xs := SqL.of (by rw [hide_ne n]; exact h)
theorem hide_tup {K : PySem.W.Frag} {p a : Addr} {H : Hp} {xs ys : List V} (hp : H p = some (.lst ys)) (h : SqT K H a xs) : SqT K (hide p H) a xs := by
  rcases h with (h | ⟨o, h⟩) | h
  · have n : a ≠ p := fun z => by
      rw [z, hp] at h
      cases h
    exact .inl (.inl (by rw [hide_ne n]; exact h))
  · have n : a ≠ p := fun z => by
      rw [z, hp] at h
      cases h
    exact .inl (.inr ⟨o, by rw [hide_ne n]; exact h⟩)
  · exact .inr h
/-- data, or an empty dict -/
def ItemV (K : PySem.W.Frag) (H : Hp) (v : V) (d : PyData) : Prop := (Dp K H v d ∧ Sh 60 80000 d) ∨ (d = .dict [] ∧ ∃ p, v = .ref p ∧ H p = some (.dK []))
theorem ItemV.mono {K : PySem.W.Frag} {H H' : Hp} {v : V} {d : PyData} (s : Same H H') (h : ItemV K H v d) : ItemV K H' v d := by
  rcases h with ⟨h, h2⟩ | ⟨e, p, e2, h⟩
  · exact .inl ⟨Dp.mono s h, h2⟩
  · exact .inr ⟨e, p, e2, s _ _ h⟩
def tyN : PyData → String
  | .none => "NoneType"
  | .bool _ => "bool"
  | .int _ => "int"
  | .str _ => "str"
  | .list _ => "list"
  | .tuple _ => "tuple"
  | .dict _ => "dict"
theorem Dp.ty {K : PySem.W.Frag} {H : Hp} {v : V} {d : PyData} (h : Dp K H v d) : TyX K H v (.type (tyN d)) := by
  cases h with
  | non => exact .base .non
  | bl b => exact .base (.bl b)
  | int i => exact .base (.int i)
  | str x => exact .base (.str x)
  | lst h _ =>
    rcases h with (h | ⟨o, h⟩) | ⟨o, its, n, h1, h2, _⟩
    · exact .base (.lst h)
    · exact .base (.frz h)
    · exact .kList h1 h2
  | tup h _ =>
    rcases h with (h | ⟨o, h⟩) | ⟨o, its, n, h1, h2, _⟩
    · exact .base (.tup h)
    · exact .fTuple h
    · exact .kTuple h1 h2
theorem ItemV.ty {K : PySem.W.Frag} {H : Hp} {v : V} {d : PyData} (h : ItemV K H v d) : TyX K H v (.type (tyN d)) := by
  rcases h with ⟨h, _⟩ | ⟨rfl, p, rfl, h⟩
  · exact Ef.Dp.ty h
  · exact .base (.dK h)
section
variable {X : Cx} (K : PySem.W.Frag)
def rReprI (K : PySem.W.Frag) : List V → Hp → VK → Prop := fun xs H Q => ∃ v d, xs = [v] ∧ ItemV K H v d ∧ Q (.str d.shown) H
theorem call_reprI (gd : X.A.guards = some []) (hu : X.A.units + 66 < cLine) (h : X.K = K := by rfl) : CallR X (.builtin "repr") (rReprI K) := by
  subst h
  intro pins s σ H xs us Q I r h
  obtain ⟨v, d, rfl, hI, q⟩ := h
  rcases hI with ⟨hD, hS⟩ | ⟨rfl, p, rfl, hp⟩
  · exact call_reprD gd hu pins s σ H _ us Q I r ⟨v, d, rfl, hD, hS, q⟩
  · obtain ⟨u, rfl, ru⟩ := vals1 r
    obtain rfl : u = Value.ref p := ru
    obtain ⟨_, hsys, vs, kv, o, es, ep, ho, hx, hd, hk, hpr, hn⟩ := dk_of I.hok hp
    have e1 : vs = [] := by
      cases kv
      rfl
    subst e1
    have e2 : es.toList = [] := by
      generalize es.toList = l at hpr ⊢
      cases hpr
      rfl
    have dep : PyData.depth (.dict []) ≤ 2 := by decide
    have rd : Reads s.heap (.ref p) (.dict []) (p :: [] ++ []) := by
      refine .dict ho hx.1 hd ?_ ?_
      · rw [e2]
        exact .nil
      · rw [e2]
        exact .nil
    refine repr_of_reads' rd rfl (fun _ hm => ?_) gd (by omega) (fun _ _ e => e) (fun h' u tk hk => ?_) (by decide +kernel)
    · have e3 : sysModules = p := by simpa using hm
      rw [← e3] at hsys
      exact absurd hsys (by simp)
    · exact ⟨.str _, H, I.kept hk, ⟨u, rfl⟩, q⟩
end
end Ef
set_option maxHeartbeats 4000000
namespace Ef
open PySem PySem.Spec PyProof.Rows L2
/-! ### sum of a list, of a tuple of whole numbers -/
theorem cr_sumK {X : Cx} (K : PySem.W.Frag) (hc : X.calm = true := by rfl) (h : X.K = K := by rfl) : CallR X (.builtin "sum") (rSum K) := by
  subst h
  exact cr_sum hc
def rSumT (K : PySem.W.Frag) : List V → Hp → VK → Prop := fun vs H Q => ∃ (a : Addr) (ns : List Int), vs = [V.ref a] ∧ SqT K H a (ns.map V.int) ∧ Q (.int ns.sum) H
theorem cr_sumT {X : Cx} (K : PySem.W.Frag) (hc : X.calm = true := by rfl) (h : X.K = K := by rfl) : CallR X (.builtin "sum") (rSumT K) := by
  subst h
  intro pins s σ H vs us Q I r h
  obtain ⟨a, ns, rfl, hs, q⟩ := h
  obtain ⟨its, rv, hl, _⟩ := I.tuple hs
  rw [Vals.ref1 r]
  have hi := rv.ints
  obtain ⟨xs, hx⟩ := hi.allInts.items
  have hn : numsOf its.toArray.toList = ns := by rw [show its.toArray.toList = its from rfl, hi.numsOf]
  rw [hx] at hl hn
  rw [nums_intItems] at hn
  refine PySem.W.ktm_sumG (I.ok.hd hc) hl fun h' tk t' hk => ?_
  rw [preSum_eq, List.take_of_length_le (by simp), hn]
  exact ⟨.int _, H, I.kept hk, ⟨_, rfl⟩, q⟩
end Ef
set_option maxHeartbeats 4000000
namespace Ef
open PySem PySem.Spec PyProof.Rows L2
/-! ### Base.__init__(self, ..) where Base is an own class without an __init__ of its own -/
section
variable {X : Cx} {e : Expr} {es : List Expr} {ta : TA} {x : Str} {p1 p2 pos : Pos} {B : Addr}
theorem pe_baseInit {pl : Sem Bool} (hg : Gl X x) (hm : X.mg x = some (.ref B))
    (h1 : PySem.W.specialIn X.K (.ref B) "__getattribute__" = some (some (.builtin "type.__getattribute__")))
    (h2 : PySem.W.typeIn X.K (.ref B) = some (.type "type")) (h3 : PySem.W.readsIn X.K B (.type "type") = true)
    (h4 : PySem.W.findCls X.K (.ref B) (.type "type") "__init__" = some (.val (.builtin "ValueError.__init__"))) (ha : PA X (e :: es) ta)
    (a1 : eval (.Call (.Attribute (.Name x p1) "__init__" p2) (e :: es) [] pos) X.env = (do
      let bv ← eval (.Name x p1) X.env
      standAt p2.atName
      let (g, first) ← holding [bv] (getMethod bv "__init__" pl)
      callWith pos g first (backTo pos (starEach (e :: es) X.env)) (backToKw pos (keywordEach [] X.env))) := by rfl)
    (a2 : starEach (e :: es) X.env = (false, eval e X.env) :: starEach es X.env := by rfl)
    (a3 : (backTo pos (starEach es X.env)).any (fun z => z.1) = false := by rfl) (a4 : (x == ("__debug__" : Str)) = false := by decide) :
    PE X (.Call (.Attribute (.Name x p1) "__init__" p2) (e :: es) [] pos) (tVeI X.K ta) := by
  refine ⟨fun pins s σ H Q I h => ?_⟩
  refine PySem.W.methodCall_KW (ld_glob I hg hm ?_ a4) a1
  obtain ⟨m, fr⟩ := I.fr
  refine PySem.W.method_of_cls fr I.ok.mod.kin h1 ?_
  refine PySem.W.cls_val fr I.ok.mod.kin h2 h3 h4 (by decide +kernel) ?_
  show wpAny _ _ (callWith pos (Value.builtin "ValueError.__init__") [] (backTo pos (starEach (e :: es) X.env)) []) _ _ _
  refine PyProof.Rows.callWith_method1 (thn (ha.run pos pins _ σ H _ (I.tok _) h) fun us s1 got => ?_) a2 a3
  obtain ⟨vs, H1, I1, r1, a, C, ws, rfl, hl, T, ea, q⟩ := got
  cases r1 with
  | @cons _ u0 _ ur ra rest =>
    obtain rfl : u0 = Value.ref a := ra
    refine oinit_ok T I1 ea ?_ fun s' J => ⟨.non, H1, J, rfl, q⟩
    have hl2 := Paired.length rest
    rw [sizeLine_eq]
    omega
end
/-! ### an exception that is kept as a value -/
/-- at a: an exception of the class cls, its dict at d -/
def exk (a : Addr) (cls : Value) (d : Option Addr) : HO := .ext fun h => ∃ oe vs, h.get? a = some oe ∧ oe.cls = cls ∧ oe.dict = d ∧ oe.data = .fields vs
theorem exk_ok {P : Program} {w : World} {H : Hp} {h : Heap} {a : Addr} {cls : Value} {d : Option Addr} {oe : Obj} {vs : Array Value} (he : h.get? a = some oe) (hc : oe.cls = cls) (hd : oe.dict = d) (hv : oe.data = .fields vs) : ObjOk P w H h a (exk a cls d) :=
  ⟨⟨oe, vs, he, hc, hd, hv⟩, ⟨oe, he⟩, fun h1 h2 z k => by
    obtain ⟨o, v, z1, z2⟩ := z
    exact ⟨o, v, k _ z1, z2⟩⟩
theorem exk_at {P : Program} {w : World} {H : Hp} {h : Heap} {a : Addr} {cls : Value} {d : Option Addr} (hok : HOk P w H h) (e : H a = some (exk a cls d)) : ∃ oe vs, h.get? a = some oe ∧ oe.cls = cls ∧ oe.dict = d ∧ oe.data = .fields vs := by
  have z : ObjOk P w H h a (.ext fun h => ∃ oe vs, h.get? a = some oe ∧ oe.cls = cls ∧ oe.dict = d ∧ oe.data = .fields vs) := hok a _ e
  exact z.1
theorem Inv_track {X : Cx} {pins : List (Addr × Obj)} {σ : L2.St} {H : Hp} {s : Shared} {a : Addr} {oe : Obj} {vs : Array Value} {cls : Value} {d : Option Addr} (I : L2.Inv X ((a, oe) :: pins) σ H s)
    (hc : oe.cls = cls) (hd : oe.dict = d) (hv : oe.data = .fields vs) (new : X.s_0.heap.get? a = none) (hp : ∀ p ∈ X.pn ++ pins, p.1 ≠ a) : L2.Inv X pins σ (upd H a (exk a cls d)) s := by
  obtain ⟨ha, na, nL, nF, nc⟩ := I.pin (a, oe) (List.mem_append_right _ List.mem_cons_self)
  have kp : ∀ {b : Addr} {u : HO}, H b = some u → upd H a (exk a cls d) b = some u := fun {b u} z => by
    rw [upd_ne (ne_of_none z na)]
    exact z
  refine ⟨I.ok, I.os, I.bare, ⟨I.base.keep, I.base.slot, fun b o z n hx => ?_, I.base.there, fun b xs z => kp (I.base.tups b xs z), fun b o u z => kp (I.base.frzs b o u z), fun b ps z => ?_⟩, I.loc, I.cell, ?_, fun y c z => ?_, fun p q => ?_, fun b o z => ?_, I.len⟩
  · rw [upd_ne (fun y => by rw [y, new] at z; cases z)]
    exact I.base.free b o z n hx
  · obtain ⟨more, z2⟩ := I.base.tbls b ps z
    exact ⟨more, kp z2⟩
  · rw [upd_ne nL.symm]
    exact I.free
  · have nca : c ≠ a := fun y2 => by
      obtain ⟨v, oc, z3, z4⟩ := I.cell y c z
      rw [y2, ha] at z3
      obtain rfl := Option.some.inj z3
      first
        | exact nc _ z4
        | exact nc _ z4.2
        | exact nc _ z4.1
    rw [upd_ne nca]
    exact I.freeC y c z
  · obtain ⟨z1, z2, z3, z4, z5⟩ := I.pin p (by
      rcases List.mem_append.mp q with q | q
      · exact List.mem_append_left _ q
      · exact List.mem_append_right _ (List.mem_cons_of_mem _ q))
    exact ⟨z1, by rw [upd_ne (hp p q)]; exact z2, z3, z4, z5⟩
  · by_cases hb : b = a
    · subst hb
      rw [upd_same] at z
      obtain rfl := Option.some.inj z
      exact exk_ok ha hc hd hv
    · rw [upd_ne hb] at z
      exact (I.hok b o z).stay (fun _ _ _ y => y) (fun c y => kp y) fun c xs y => kp y
/-- what 'except x as n: suite' wishes of an exception of the body, the exception being kept: slot i is n's -/
def wKeep (K : PySem.W.Frag) (c : Value) (i : Nat) (ts : Addr → Value → Option Addr → TS) (Wout : WX) (D : Ends) : WX := fun cls d σ H =>
  ∃ b, PySem.W.exmOne K cls c = some b ∧ (b = true → ∀ a, H a = none → ts a cls d { nx := fun σ' H' => D.nx (σ'.set i none) (upd H' a (exk a cls d)), rt := fun _ _ => False } (σ.set i (some (.ref a))) H) ∧
    (b = false → Wout cls d σ H)
section
variable {X : Cx} {x n : Str} {c : Value} {i : Nat} {body suite : List Stmt} {b₀ : Stmt} {np pos pos' : Pos} {tb : WX → TS} {ts : Addr → Value → Option Addr → TS} {Wout : WX}
theorem ps_try_keep (stk : X.stack = X.env :: X.outer) (frm : X.env.frame = some X.env.locals) (hex : X.ex = []) (hN : X.N.Nodup) (hi : X.N[i]? = some n) (hln : X.env.kindOf n = some .local) (nm : Names X x c) (tk : Takes X Wout)
    (hb : ∀ (W : WX) (pn : List (Addr × Obj)) (xe : Value → Shared → Prop), Takes (X.tr pn xe) W → PassesOwn (model X.prog X.w) X.A X.env xe → PSs (X.tr pn xe) body (tb W))
    (hsu : ∀ (a : Addr) (oe : Obj) (cls : Value) (d : Option Addr) (pn : List (Addr × Obj)), Zc cls d oe → (∃ vs, oe.data = .fields vs) → PSs (X.suite a ((a, oe) :: pn)) (b₀ :: suite) (ts a cls d)) :
    PS X (.Try body [.ExceptHandler (some (.Name x np)) (some n) (b₀ :: suite) pos'] [] [] pos) (fun D σ H => tb (wKeep X.K c i ts Wout D) D σ H) := by
  refine ⟨fun pins s σ H D I wish => ?_⟩
  have okX := I.ok
  have frs1 : X.A.frames = some (X.env :: X.outer) := by rw [okX.frames, stk]
  refine wpAny_Try_except ?_
  refine wpAny_mono ((hb (wKeep X.K c i ts Wout D) (X.pn ++ pins) (fun z s₁ => wpAny (model X.prog X.w) X.A (noteFrame z X.env) (fun _ s₂ => wpAny (model X.prog X.w) X.A (setFlight z none) (fun _ s₃ =>
    wpAny (model X.prog X.w) X.A (handleBy z X.env [.ExceptHandler (some (.Name x np)) (some n) (b₀ :: suite) pos']) (SP X pins D) X.xe s₃) X.xe s₂) X.xe s₁) (fun u s' air => ?_) PassesOwn.looking).run [] s σ H D (I.toTry _) wish) (fun fl s1 got => ?_) (fun z s1 got => got)
  · obtain ⟨a, B, sI, pins', σ', H', cls, d, rfl, J', nb, up, sky, na, os, ag, b, hb1, hyes, hno⟩ := air
    have J : L2.Inv X pins σ' H' sI := J'.ofTry okX
    have sky1 : Sky B (X.env :: X.outer) a (Zc cls d) X.env.locals s'.heap := by rw [← stk]; exact sky
    show wpAny (model X.prog X.w) X.A (noteFrame (.ref a) X.env) _ _ _
    refine Sky.land Zc.steady frs1 frm sky1 fun h3 fl3 up3 => ?_
    have J3 : L2.Inv X pins σ' H' { s' with heap := h3 } := J.landed nb fl3.1 (up.trans up3) os ag
    obtain ⟨oe3, vs3, he3, hz3, hd3⟩ := fl3.there
    have nfr : a ∉ frs (X.env :: X.outer) := fun hm => by
      obtain ⟨_, o', e', hnf⟩ := fl3.2.2.1.mem hm
      rw [he3] at e'
      cases e'
      exact hnf _ hd3
    have nL : a ≠ X.env.locals := fun z => nfr (List.mem_filterMap.mpr ⟨X.env, List.mem_cons_self, by rw [frm, z]⟩)
    have nF : a ∉ X.fs := fun hm => by
      obtain ⟨en, hen, y⟩ := List.mem_filterMap.mp hm
      exact nfr (List.mem_filterMap.mpr ⟨en, List.mem_cons_of_mem _ hen, y⟩)
    have newI : ∀ o, sI.heap.get? a = some o → False := fun o y => by
      have y2 := nb a o y (by rw [stk]; exact nfr)
      rw [fl3.2.1] at y2
      cases y2
    have new0 : X.s_0.heap.get? a = none := by
      cases y : X.s_0.heap.get? a with
      | none => rfl
      | some o =>
        obtain ⟨o', y2⟩ := J.base.there a o y (by rw [hex]; exact List.not_mem_nil)
        exact (newI o' y2).elim
    have apart : ∀ p ∈ X.pn ++ pins, p.1 ≠ a := fun p hp y => newI p.2 (by rw [← y]; exact (J.pin p hp).1)
    have S3 := J3.suite he3 hd3 na nL nF
    refine wpAny_handleBy_cons (codeAny_handlers_test ?_) (by intro y; cases y)
    have LT : PySem.W.Looks (model X.prog X.w) h3 (typeOf (.ref a)) cls := fun A Q E s k y => wpAny_typeOf_ref (k _ _ he3) (by rw [hz3.1]; exact y)
    have LM := PySem.W.exm_one (M := model X.prog X.w) (J3.kIn) LT hb1
    have asked : ∀ {Q : Value → Shared → Prop} {E : Value → Shared → Prop}, Q c { s' with heap := h3 } → wpAny (model X.prog X.w) (X.A.mark (some (.ref a))) (eval (.Name x np) X.env) Q E { s' with heap := h3 } := fun {Q E} y => by
      obtain ⟨hg, hdbg, hm | ⟨hm, hv, hnn⟩⟩ := nm
      · exact ld_glob (X := X.suite a ((a, oe3) :: (X.pn ++ pins))) S3 hg hm y hdbg
      · exact ld_blt (X := X.suite a ((a, oe3) :: (X.pn ++ pins))) S3 hg hm hv y hnn hdbg
    refine asked (LM.here ?_)
    cases b with
    | true =>
      refine codeAny_handlers_suite_as ?_
      refine HandSPX.lands_againZ fl3 fun h4 fl4 up4 => ?_
      have J4 : L2.Inv X pins σ' H' { s' with heap := h4 } := J.landed nb fl4.1 ((up.trans up3).trans up4) os ag
      obtain ⟨oe4, vs4, he4, hz4, hd4⟩ := fl4.there
      have S4 := J4.suite he4 hd4 na nL nF
      refine store_ok (X := X.suite a ((a, oe4) :: (X.pn ++ pins))) (v := .ref a) S4 hN hi (.inl hln) rfl (fun s5 S5 => ?_) (.inr hln)
      refine wpAny_mono ((hsu a oe4 cls d (X.pn ++ pins) hz4 ⟨_, hd4⟩).run [] s5 _ H' _ S5 (hyes rfl a na)) (fun fl s6 got => ?_) (fun _ _ y => False.elim y)
      cases fl with
      | next =>
        obtain ⟨σ6, H6, S6, q6⟩ := got
        have P6 := S6.pin (a, oe4) (List.mem_append_left _ List.mem_cons_self)
        have J6 : L2.Inv X ((a, oe4) :: pins) σ6 H6 s6 := (S6.unsuite okX).pins_of fun p hp => by
          rcases List.mem_cons.mp hp with rfl | hp
          · exact P6
          · exact (S6.unsuite okX).pin p (List.mem_append_right _ hp)
        exact gone_ok J6 hN hi hln fun s7 J7 => ⟨_, _, Inv_track J7 hz4.1 hz4.2 hd4 new0 apart, q6⟩
      | brk =>
        obtain ⟨σ6, H6, S6, q6⟩ := got
        exact q6.elim
      | cont =>
        obtain ⟨σ6, H6, S6, q6⟩ := got
        exact q6.elim
      | ret u =>
        obtain ⟨v6, σ6, H6, S6, r6, q6⟩ := got
        exact q6.elim
    | false =>
      show wpAny _ X.A (handleBy (.ref a) X.env []) _ _ _
      refine wpAny_handleBy_nil ?_
      obtain ⟨k1, k2, k3, oe, vs, T, oT, ts', he, hz, hd, h1, hr⟩ := id fl3
      unfold PySem.passOn
      refine wpAny_bind (wpAny_field he hd h1 ?_)
      rw [if_neg (show ¬ ((Value.ref T == Value.none) = true) from by simp)]
      have fin : wpAny (model X.prog X.w) X.A (setFlight (.ref a) X.env.frame) (fun _ s4 => wpAny (model X.prog X.w) X.A (throw (.ref a) : Sem Flow) (SP X pins D) X.xe s4) X.xe { s' with heap := h3 } := by
        rw [frm]
        refine HandSPX.setFlight_upZ fl3 fun h4 hh4 up4 => wpAny_throw (tk _ _ ?_)
        exact ⟨a, B, sI, pins, σ', H', cls, d, rfl, J, nb, (up.trans up3).trans up4, .inr (.inr (by rw [stk]; exact hh4)), na, os, ag, hno rfl⟩
      first
        | exact wpAny_bind (wpAny_pure (wpAny_bind fin))
        | exact wpAny_bind fin
  · cases fl with
    | next =>
      obtain ⟨σ', H', J', q⟩ := got
      exact wpAny_execs_nil ⟨σ', H', J'.ofTry okX, q⟩
    | brk =>
      obtain ⟨σ', H', J', q⟩ := got
      exact ⟨σ', H', J'.ofTry okX, q⟩
    | cont =>
      obtain ⟨σ', H', J', q⟩ := got
      exact ⟨σ', H', J'.ofTry okX, q⟩
    | ret u =>
      obtain ⟨v, σ', H', J', r, q⟩ := got
      exact ⟨v, σ', H', J'.ofTry okX, r, q⟩
end
theorem takesF {X : Cx} : Takes X (fun _ _ _ _ => False) := fun _ _ x => by
  obtain ⟨_, _, _, _, _, _, _, _, _, _, _, _, _, _, _, _, z⟩ := x
  exact z.elim
theorem passF {X : Cx} : Passes (L2.CX X.prog X.w) X (fun _ _ _ => False) := fun _ _ _ _ _ _ _ x => by
  obtain ⟨_, _, _, _, _, _, _, _, _, _, _, _, z⟩ := x
  exact z.elim
/-! ### what is asked of an exception that was kept -/
section
open PySem.W PySem.Calls
variable {prog : Program} {w : World} {A : Around} {E : Value → Shared → Prop} {s : Shared} {K : PySem.W.Frag} {y D : Addr} {oy : Obj} {od : Option Obj}
theorem class_of_exc {Q : Option Value → Shared → Prop} (T : ExcC K D) (kin : K.In s.heap) (I : InstAt s.heap y oy D od) (hod : od.isSome = true) (h : Q (some (.ref D)) { s with toks := s.toks + 1 }) :
    wpAny (model prog w) A (getAttr? (.ref y) "__class__") Q E s := by
  obtain ⟨oo, rfl⟩ := Option.isSome_iff_exists.mp hod
  have ff : findObj K D (some oo) "__class__" = some (.bind (.builtin "getset_descriptor.__get__") (.builtin "object.__class__")) := findObj_data (by obtain ⟨cd, hc, _⟩ := any_some T.hd; rw [hc]; rfl) T.ha T.hn T.ht
  obtain ⟨hp, g, d, t, os⟩ := s
  have T0 := I.type (M := model prog w)
  have T1 := looks_findIn (M := model prog w) kin T.hg
  have T2 := looks_findIn (M := model prog w) kin T.hk
  have T3 := looks_find (M := model prog w) kin I ff
  have inB : Looks (model prog w) hp (isInstance (.ref y) (.type "BaseException")) true := T0.andThen (looks_subIn kin T.hs)
  have b0 : (false && onTheHeap (Value.builtin "BaseException.__getattribute__")) = false := rfl
  have b2 : (Value.builtin "BaseException.__getattribute__" == Value.builtin "object.__getattribute__") = false := by decide +kernel
  have b1 : (onTheHeap (Value.ref D) && Value.builtin "BaseException.__getattribute__" == Value.builtin "object.__getattribute__") = false := by rw [b2]; rfl
  unfold getAttr? getAttrBy? getAttrBy
  refine wpAny_bind (wpAny_mkText (wpAny_bind (wpAny_attempt (wpAny_holding (wpAny_bind (T0.at (wpAny_bind (T1.at ?_))))))))
  show wpAny _ _ (if (onTheHeap (Value.ref D) && Value.builtin "BaseException.__getattribute__" == Value.builtin "object.__getattribute__") = true then _ else _) _ _ ⟨hp, g, d, t + 1, os⟩
  rw [b1, if_neg Bool.false_ne_true]
  unfold getAttrByItsOwn hookBefore
  refine wpAny_bind ?_
  rw [if_pos (show onTheHeap (Value.ref D) = true from rfl)]
  refine T2.at ?_
  refine wpAny_bind (wpAny_attempt (wpAny_holding ?_))
  unfold callGetattribute
  rw [b0, if_neg Bool.false_ne_true]
  unfold boundAndCalled
  rw [PySem.F.excAttr_ValueError.ga.bind (.ref y)]
  refine wpAny_bind (wpAny_pure ?_)
  show wpAny _ _ (call (.builtin "BaseException.__getattribute__") [.ref y, .str "__class__" t]) _ _ _
  refine wpAny_call (codeAny_call_builtin PySem.F.excAttr_ValueError.ga.plain PySem.F.entry_bexc_ga ?_)
  refine @check_slot (model prog w) _ _ ⟨hp, g, d, t + 1, os⟩ "BaseException.__getattribute__" "BaseException" "__getattribute__" (.ref y) [.str "__class__" t] [] _ (by decide +kernel) (by decide +kernel) inB (PySem.F.args_bexc_ga (.ref y) (.str "__class__" t)) ?_
  unfold Builtin.«object.__getattribute__»
  refine wpAny_bind (wpAny_of_eq (a := ((Value.ref y : Value), [Value.str "__class__" t])) (by first | rfl | (simp only [slotArgs]; rfl)) ?_)
  refine wpAny_bind (wpAny_pure (wpAny_bind (T0.at (wpAny_bind (T3.at ?_)))))
  show wpAny _ _ (holding [Value.builtin "object.__class__"] (call (.builtin "getset_descriptor.__get__") [.builtin "object.__class__", .ref y, .ref D]) >>= ret) _ _ ⟨hp, g, d, t + 1, os⟩
  refine wpAny_bind (wpAny_holding (wpAny_call (class_get (s := ⟨hp, g, d, t + 1, os⟩) (ox := oy) (od := some oo) kin I T.hm ?_)))
  refine wpAny_pure ?_
  show wpAny _ _ (handedOut (.ref D)) _ _ ⟨hp, g, d, t + 1, os⟩
  rw [handedOut_of (v := .ref D) rfl]
  first
    | exact wpAny_pure (wpAny_pure h)
    | exact wpAny_pure h
    | exact wpAny_pure (wpAny_bind (wpAny_pure (wpAny_pure h)))
theorem kit_kept (T : ExcC K D) : KitX K (.ref y) (.ref D) (fun h => ∃ oy oo, InstAt h y oy D (some oo)) where
  ty := fun _ _ _ I => by
    obtain ⟨_, _, I⟩ := I
    exact I.type
  it := fun _ _ kin _ => by
    obtain ⟨cd, hc, _⟩ := any_some T.hd
    unfold clsIn at hc
    split at hc
    · rename_i c' d' cd' sl' ho
      intro A' Q' E' s' k q
      unfold isType loadHead
      exact wpAny_bind (wpAny_loadPart (k _ _ (kin _ _ ho)) (wpAny_pure q))
    · cases hc
  ne := fun h tp dd its n sl kin htp => by
    obtain ⟨cd, hc, _⟩ := any_some T.hd
    refine Bool.eq_false_iff.mpr fun q => ?_
    obtain rfl : D = tp := Value.ref.inj (beq_iff_eq.mp q)
    unfold clsIn at hc
    split at hc
    · rename_i c' d' cd' sl' ho
      have z := (kin _ _ ho).symm.trans htp
      cases z
    · cases hc
  ca := fun kin I k => by
    obtain ⟨_, _, I⟩ := I
    exact class_of_exc T kin I rfl k
end
section
variable {X : Cx} {pins : List (Addr × Obj)} {σ : L2.St} {H : Hp} {s : Shared}
theorem kept_inst {a D d : Addr} {fs : List (Str × V)} (I : L2.Inv X pins σ H s) (e : H a = some (exk a (.ref D) (some d))) (ed : H d = some (.xd fs)) : ∃ oy oo, PySem.W.InstAt s.heap a oy D (some oo) ∧ ∃ mA : Str → Option Value, (∀ f, RelO (fs.lookup f) (mA f)) ∧ ∀ n, PySem.W.lookIn n oo = some (mA n) := by
  obtain ⟨oe, vs, h1, h2, h3, h4⟩ := exk_at I.hok e
  obtain ⟨mA, hns, hr⟩ := (show ObjOk X.prog X.w H s.heap d (.xd fs) from I.hok d _ ed)
  obtain ⟨oo, ho, hl⟩ := lookIn_ns hns
  exact ⟨oe, oo, ⟨h1, h2, by unfold PySem.W.notCls; rw [h4] <;> rfl, by rw [h3]; exact ho⟩, mA, hr, hl⟩
end
/-- isinstance(x, c), x an exception that was kept -/
def rIsX (K : PySem.W.Frag) : List V → Hp → VK → Prop := fun xs H Q => ∃ (a D d : Addr) (fs : List (Str × V)) (c : V) (u : Value) (b : Bool), xs = [.ref a, c] ∧ H a = some (exk a (.ref D) (some d)) ∧ H d = some (.xd fs) ∧ ExcC K D ∧ ClsV c u ∧ PySem.W.kitOne K (.ref D) u = some b ∧ Q (.bl b) H
/-- isinstance(x, (c1, ..)) -/
def rIsXT (K : PySem.W.Frag) : List V → Hp → VK → Prop := fun xs H Q => ∃ (a D d : Addr) (fs : List (Str × V)) (tp : Addr) (cs : List V) (us : List Value) (b : Bool), xs = [.ref a, .ref tp] ∧ H a = some (exk a (.ref D) (some d)) ∧ H d = some (.xd fs) ∧ ExcC K D ∧ H tp = some (.tup cs) ∧ Paired ClsV cs us ∧ PySem.W.kitAny K (.ref D) us = some b ∧ Q (.bl b) H
section
variable {X : Cx}
theorem call_isX : CallR X (.builtin "isinstance") (rIsX X.K) := by
  intro pins s σ H xs us Q I r h
  obtain ⟨a, D, d, fs, c, u, b, rfl, ea, ed, T, k, e, q⟩ := h
  obtain ⟨u1, u2, rfl, r1, r2⟩ := vals2 r
  obtain rfl := k.eq r2
  obtain rfl : u1 = Value.ref a := r1
  obtain ⟨oy, oo, J, _⟩ := kept_inst I ea ed
  exact PySem.W.kia_one (kit_kept T) I.kIn ⟨_, _, J⟩ e (fun z => nomatch z) fun tk => ⟨.bl b, H, I.tok tk, rfl, q⟩
theorem call_isXT : CallR X (.builtin "isinstance") (rIsXT X.K) := by
  intro pins s σ H xs us Q I r h
  obtain ⟨a, D, d, fs, tp, cs, ws, b, rfl, ea, ed, T, hT, k, e, q⟩ := h
  obtain ⟨u1, u2, rfl, r1, r2⟩ := vals2 r
  obtain rfl : u1 = Value.ref a := r1
  obtain rfl : u2 = Value.ref tp := r2
  obtain ⟨oy, oo, J, _⟩ := kept_inst I ea ed
  obtain ⟨_, its, rv, o, h1, h2, n, h3⟩ := (show ObjOk X.prog X.w H s.heap tp (.tup cs) from I.hok tp _ hT)
  obtain rfl := ClsV.all k rv
  obtain ⟨oc, odd, dt, sl⟩ := o
  simp only at h2 h3
  subst h2 h3
  exact PySem.W.kia_tup (kit_kept T) I.kIn ⟨_, _, J⟩ h1 e (fun z => nomatch z) fun tk => ⟨.bl b, H, I.tok tk, rfl, q⟩
/-- e.f, e an exception that was kept -/
def tFldX (K : PySem.W.Frag) (f : Str) (te : TE) : TE := fun σ H Q => te σ H fun x H1 => ∃ (a D d : Addr) (fs : List (Str × V)) (v : V), x = .ref a ∧ H1 a = some (exk a (.ref D) (some d)) ∧ H1 d = some (.xd fs) ∧ XfC K D ∧ PySem.W.findIn K (.ref D) f = some none ∧ fs.lookup f = some v ∧ Q v H1
theorem pe_fldX {e : Expr} {te : TE} {pos : Pos} {f : Str} (he : PE X e te) (hb : attributeBase e f X.env (eval e X.env) = eval e X.env := by rfl) : PE X (.Attribute e f pos) (tFldX X.K f te) := by
  refine ⟨fun pins s σ H Q I h => ?_⟩
  refine attr_of hb (thn (he.run pins s σ H _ I h) fun u s1 got => ?_)
  obtain ⟨x, H1, I1, rx, a, D, d, fs, v, rfl, ea, ed, T, hno, l, q⟩ := got
  obtain rfl : u = Value.ref a := rx
  obtain ⟨oy, oo, J, mA, hr, hl⟩ := kept_inst I1 ea ed
  obtain ⟨u, hu, ru⟩ := RelO.some_of (v := v) (o := mA f) (by rw [← l]; exact hr f)
  exact HandSPX.exc_get I1.kIn J T.ga T.gg T.exC (PySem.W.findObj_own T.hdC hno rfl (by rw [hl, hu])) (handed_of ru) ⟨v, H1, I1.tok _, ru, q⟩
end
/-! ### what the written part says of the program's error classes -/
structure BaseT (K : PySem.W.Frag) (B : Addr) : Prop where
  sp : PySem.W.specialIn K (.ref B) "__getattribute__" = some (some (.builtin "type.__getattribute__"))
  ty : PySem.W.typeIn K (.ref B) = some (.type "type")
  rd : PySem.W.readsIn K B (.type "type") = true
  fc : PySem.W.findCls K (.ref B) (.type "type") "__init__" = some (.val (.builtin "ValueError.__init__"))
structure ErrT (K : PySem.W.Frag) (C fI : Addr) (f : Str) (B : Addr) : Prop where
  ox : OexC K C
  xf : XfC K C
  ec : ExcC K C
  no : PySem.W.findIn K (.ref C) f = some none
  iC : PySem.W.findIn K (.ref C) "__init__" = some (some (.ref fI))
  tI : PySem.W.typeIn K (.ref fI) = some (.type "function")
  ex : PySem.W.exmOne K (.ref C) (.ref B) = some true
/-- an error's __init__: the base's, then the field -/
def spErr (K : PySem.W.Frag) (C : Addr) (f : Str) : Sp := fun vs H Q _ => ∃ (a : Addr) (v : V), vs = [.ref a, v] ∧ H a = some (exo a C none) ∧ ∀ dx, H dx = none → dx ≠ a → Q .non (upd (upd H dx (exd dx [(f, v)])) a (exo a C (some dx)))
/-- behind the raise: the error's dict, all else as it was -/
theorem err_end {H : Hp} {a C dx : Addr} {f : Str} {v : V} (na : H a = none) (nd : (upd H a (exo a C none)) dx = none) (ne : dx ≠ a) :
    let H2 := upd (upd (upd H a (exo a C none)) dx (exd dx [(f, v)])) a (exo a C (some dx))
    H2 a = some (exo a C (some dx)) ∧ H2 dx = some (exd dx [(f, v)]) ∧ H dx = none ∧ Same H (upd (del H2 a) dx (.xd [(f, v)])) ∧ (upd (del H2 a) dx (.xd [(f, v)])) dx = some (.xd [(f, v)]) := by
  have hd : H dx = none := by
    rw [upd_ne ne] at nd
    exact nd
  refine ⟨upd_same, by rw [upd_ne ne, upd_same], hd, fun b o z => ?_, upd_same⟩
  have n1 : b ≠ a := ne_of_none z na
  have n2 : b ≠ dx := ne_of_none z hd
  rw [upd_ne n2, del_ne n1, upd_ne n1, upd_ne n2, upd_ne n1]
  exact z
end Ef
set_option maxHeartbeats 4000000
namespace Ef
open PySem PySem.Spec PyProof.Rows L2
open Sem (wp)
/-! ### enumerate(tuple) -/
theorem meets_enumerate_newG {v : Value} {o : Obj} {H : Heap → Prop} (B : Begins v o H) :
    Meets (Builtin.«enumerate.__new__» ⟨[.type "enumerate", v], []⟩) (fun _ R s => H s.heap ∧
      R (.ok (.ret (.ref (s.heap.push o).objs.size))) { s with heap := (s.heap.push o).push { cls := .type "enumerate", data := .fields #[.none, .bool false, .ref s.heap.objs.size, rawInt 0, .none, .none] } }) :=
  .of_wp fun prog w A R s h => by
    obtain ⟨hp, g, d, tk, os⟩ := s; obtain ⟨h1, h⟩ := h
    have hsub := sub_enumerate
    have q1 : ∀ {A' : Around} {E : Value → Shared → Prop} {Q : Value → Shared → Prop}, Q (.ref hp.objs.size) ⟨hp.push o, g, d, tk, os⟩ → wpAny (model prog w) A' (pyIter v) Q E ⟨hp, g, d, tk, os⟩ :=
      fun q => B.iter prog w _ _ ⟨hp, g, d, tk, os⟩ _ h1 q
    wp_walk using q1
    refine wpAny_stack_any fun st => wpAny_pure ?_
    split
    · rename_i c _ _ _ _ _
      cases (c == Value.type "enumerate")
      · wp_walk using q1
        exact ⟨_, rfl, h⟩
      · wp_walk using q1
        exact ⟨_, rfl, h⟩
    · wp_walk using q1
      exact ⟨_, rfl, h⟩
theorem call_enumerate_tup {prog : Program} {w : World} {A : Around} {E : Value → Shared → Prop} {s : Shared} {t : Addr} {items : Array Value} {Q : Value → Shared → Prop} (hT : s.heap.IsTuple t items)
    (h : ∀ h', IsEnum h' (s.heap.objs.size + 1) s.heap.objs.size 0 .none → h'.IsTupleIter s.heap.objs.size t 0 → h'.objs.size = s.heap.objs.size + 2 →
      (∀ b o, s.heap.get? b = some o → h'.get? b = some o) → Q (.ref (s.heap.objs.size + 1)) { s with heap := h' }) :
    wpAny (model prog w) A (call (.type "enumerate") [.ref t]) Q E s := by
  refine callType_new F.called_enumerate (by decide) (F.typeCall_enumerate_1 _) (F.newCall_enumerate_1 _) (fun obj => F.args_object_init_2 obj _) F.entry_enumerate_new
    (meets_enumerate_newG (begins_tuple t items)) ⟨hT, ?_⟩
  have hz : (s.heap.push { cls := .type "tuple_iterator", data := .fields #[.ref t, .int 0 0] }).objs.size = s.heap.objs.size + 1 := Heap.size_push ..
  show _ ∧ _
  rw [hz]
  have he : IsEnum ((s.heap.push { cls := .type "tuple_iterator", data := .fields #[.ref t, .int 0 0] }).push
      { cls := .type "enumerate", data := .fields #[.none, .bool false, .ref s.heap.objs.size, rawInt 0, .none, .none] }) (s.heap.objs.size + 1) s.heap.objs.size 0 .none := by
    have := Heap.get?_push_size (s.heap.push { cls := .type "tuple_iterator", data := .fields #[.ref t, .int 0 0] })
      (o := { cls := .type "enumerate", data := .fields #[.none, .bool false, .ref s.heap.objs.size, rawInt 0, .none, .none] }) rfl
    rw [hz] at this; exact this
  exact ⟨⟨_, he, rfl⟩, h _ he ⟨_, Heap.get?_push_of_some _ (Heap.get?_push_size _ rfl), rfl, rfl⟩ (by rw [Heap.size_push, hz]) fun b o x => Heap.get?_push_of_some _ (Heap.get?_push_of_some _ x)⟩
/-- the tuple at a, each item in a new pair -/
def Itet (K : PySem.W.Frag) (a : Addr) : It :=
  ⟨fun i H => ∃ (xs : List V) (x : V), SqT K H a xs ∧ xs[i]? = some x, fun i H v H' => ∃ T x, v = .ref T ∧ H T = none ∧ H' = upd H T (.tup [.int (i : Nat), x]) ∧ ∀ xs, SqT K H a xs → xs[i]? = some x, fun i H => ∃ xs : List V, SqT K H a xs ∧ xs.length ≤ i⟩
theorem tup_ne_iter {h : Heap} {a it : Addr} {items : Array Value} {i : Nat} (ht : h.IsTuple a items) (hit : h.IsTupleIter it a i) : a ≠ it := by
  rintro rfl
  obtain ⟨o, h1, c1, _⟩ := ht
  obtain ⟨o', h2, c2, _⟩ := hit
  rw [h1] at h2
  obtain rfl := Option.some.inj h2
  rw [c1] at c2
  injection c2 with c3
  exact absurd c3 (by decide)
theorem enum_ne_tup {h : Heap} {a e it : Addr} {items : Array Value} {i : Int} {old : Value} (ht : h.IsTuple a items) (he : IsEnum h e it i old) : e ≠ a := by
  rintro rfl
  obtain ⟨o, h1, c1, _⟩ := ht
  have h2 : h.get? e = _ := he
  rw [h1] at h2
  obtain rfl := Option.some.inj h2
  injection c1 with c3
  exact absurd c3 (by decide)
theorem wpAny_pyNext_enum_endX {prog : Program} {w : World} {A : Around} {E : Value → Shared → Prop} {s : Shared} {e it t : Addr} {i : Nat} {items : Array Value} {old : Value} {Q : Option Value → Shared → Prop} (hh : A.handled = none)
    (he : IsEnum s.heap e it i old) (hit : s.heap.IsTupleIter it t i) (ht : s.heap.IsTuple t items) (hx : items[i]? = none)
    (hQ : ∀ h', Heap.ExtBut it s.heap h' → Q none { s with heap := h' }) : wpAny (model prog w) A (pyNext (.ref e)) Q E s := by
  have hT : s.TypeIs (.ref e) "enumerate" := ⟨_, he, rfl⟩
  unfold pyNext
  refine wpAny_bind (wpAny_attempt (wpAny_callSpecial?_slot (name := Str.ofString "__next__") hT F.slot_enumerate_next
    (wpAny_call_entry F.slot_enumerate_next hT F.entry_enumerate_next ?_ (F.args_enumerate_next_1 _))))
  show wpAny _ _ (field (.ref e) 2 >>= _) _ _ _
  refine wpAny_bind (wpAny_field he rfl (x := .ref it) rfl ?_)
  refine wpAny_bind (wpAny_nextOf_tuple_end (show A.in1.handled = none from hh) hit ht hx fun h' x he' hx' => ?_)
  obtain ⟨o, ho, hc⟩ := hx'
  refine wpAny_bind (wpAny_isInstance (T := "StopIteration") (b := true) ⟨o, ho, hc⟩ isSubtype_stop ?_)
  exact wpAny_pure (hQ _ he')
theorem turn_enumT {P : Program} {w : World} {K : PySem.W.Frag} {elts : List Expr} {kk : Nat} {tpos : Pos} (a e it : Addr) :
    Turn P w K (.Tuple elts kk tpos) (Itet K a) [e, it] e (fun i h => (∃ old, IsEnum h e it ((i : Nat) : Int) old) ∧ h.IsTupleIter it a i ∧ e ≠ it) where
  mem := by simp
  obj := fun i h st b hb => by
    obtain ⟨⟨old, he⟩, ⟨o, ho, hc, hd⟩, _⟩ := st
    have e' : b = e ∨ b = it := by simpa using hb
    rcases e' with z | z
    · rw [z]; exact ⟨_, he, fun v q => nomatch q⟩
    · rw [z]; exact ⟨o, ho, fun v q => by rw [hd] at q; cases q⟩
  keep := fun i h h' st k => let ⟨⟨old, he⟩, hi, hne⟩ := st; ⟨⟨old, k e (by simp) _ he⟩, hi.at fun o q => k it (by simp) o q, hne⟩
  item := by
    intro X hP hw hK hc i pins s σ H E I hf st hg
    subst hP hw hK
    obtain ⟨⟨old, he⟩, hit, hne⟩ := st
    obtain ⟨xs, x, hq, hx⟩ := hg
    obtain ⟨its, rv, p, hz⟩ := I.tuple hq
    obtain ⟨u, hu, ru⟩ := rv.get hx
    have hel : e < s.heap.objs.size := Heap.lt_size he
    have hil : it < s.heap.objs.size := by obtain ⟨_, q, _⟩ := hit; exact Heap.lt_size q
    have pT : s.heap.IsTuple a its.toArray := p
    have hai := tup_ne_iter pT hit
    have hei : i < its.toArray.size := by
      have h9 : i < its.length := by
        rw [← rv.length]
        exact (List.getElem?_eq_some_iff.mp hx).1
      simpa using h9
    refine wpAny_pyNext_enum_itemD (Draws.tuple (show X.A.in1.handled = none from I.ok.hd hc) it a hai its.toArray) he ⟨hit, pT⟩ hei hne (fun z => ?_) fun x2 h' tk hP ho hst' hT hsz hk => ?_
    · rcases List.mem_cons.mp z with z | z
      · exact hne z
      · exact enum_ne_tup pT he (by simpa using z)
    have hP2 : its.toArray[i]? = some x2 := hP
    obtain rfl : u = x2 := by
      have h9 : its[i]? = some x2 := by simpa using hP2
      rw [hu] at h9
      exact Option.some.inj h9
    refine ⟨_, rfl, wpAny_letOwnedTupleGo_enum (s := { s with heap := h', toks := tk + 1 }) ho fun h'' he' sb => ?_⟩
    have hT2 : h''.get? s.heap.objs.size = some { cls := .type "tuple", data := .seq #[.int i tk, u] } := (sb.2 _ (Nat.ne_of_gt hel)).trans hT
    have new : ObjOk X.prog X.w (upd H s.heap.objs.size (.tup [.int (i : Nat), x])) h'' s.heap.objs.size (.tup [.int (i : Nat), x]) :=
      ⟨by show 2 ≤ sizeLine; decide, [.int i tk, u], .cons ⟨_, rfl⟩ (.cons ru .nil), ⟨_, hT2, rfl, _, rfl⟩⟩
    have I1 : Inv X pins σ (upd H s.heap.objs.size (.tup [.int (i : Nat), x])) { s with heap := h'', toks := tk + 1 } :=
      I.turnedNew (ch := [e, it]) (fun b ob hb q => (sb.2 b (fun z => hb (by simp [z]))).trans (hk b ob (fun z => hb (by simp [z])) (fun z => hb (by simp [z])) q)) hf (Nat.le_refl _) new
    refine ⟨.ref s.heap.objs.size, _, I1, rfl, ⟨_, x, rfl, I.hok.fresh (Nat.le_refl _), rfl, fun ys hy => by rw [I.tuple_inj hy hq]; exact hx⟩, ⟨⟨u, ?_⟩, hst'.1.at fun o q => (sb.2 it (Ne.symm hne)).trans q, hne⟩, fun b hb => ?_⟩
    · have e1 : ((i + 1 : Nat) : Int) = (i : Int) + 1 := by omega
      rw [e1]; exact he'
    · have hb' : b < s.heap.objs.size := by
        have e' : b = e ∨ b = it := by simpa using hb
        rcases e' with z | z
        · rw [z]; exact hel
        · rw [z]; exact hil
      rw [upd_ne (Nat.ne_of_lt hb')]
      exact (hf b hb).1
  done := by
    intro X hP hw hK hc i pins s σ H E I hf st hg
    subst hP hw hK
    obtain ⟨⟨old, he⟩, hit, hne⟩ := st
    obtain ⟨xs, hq, hx⟩ := hg
    obtain ⟨its, rv, p, hz⟩ := I.tuple hq
    obtain ⟨f0, f1, f2, f3, f4, f5⟩ := hf it (by simp)
    have pT : s.heap.IsTuple a its.toArray := p
    have hl := rv.length
    refine wpAny_pyNext_enum_endX (I.ok.hd hc) he hit pT (by simp; omega) fun h' eb => ⟨rfl, I.turned (t' := s.toks) (fun b o hb q => eb b o hb q) f0 f1 f3 f4 f5⟩
  self := fun A i s Q E st h => let ⟨⟨_, he⟩, _⟩ := st; wpAny_pyIter_enum he h
def iEnumT (K : PySem.W.Frag) (ta : TA) : TI := fun σ H R => ta σ H fun vs H1 => ∃ a xs, vs = [.ref a] ∧ SqT K H1 a xs ∧ R (Itet K a) H1
theorem pi_enumT {X : Cx} {e : Expr} {ta : TA} {p pos tpos : Pos} {elts : List Expr} {kk : Nat} (hg : Gl X "enumerate") (hm : X.mg "enumerate" = none) (ha : PA X [e] ta) (hs : starEach [e] X.env = [(false, eval e X.env)] := by rfl) :
    PI X (.Tuple elts kk tpos) (.Call (.Name "enumerate" p) [e] [] pos) (iEnumT X.K ta) := by
  refine ⟨fun pins s σ H R I h => ?_⟩
  refine Call_ (ld_blt I hg hm boot_enumerate (PyProof.Rows.callWith_type1 (thn (ha.run pos pins s σ H _ I h) fun us s1 ⟨vs, H1, I1, r1, q1⟩ => ?_) hs rfl))
  obtain ⟨a, xs, ex, hq, q⟩ := q1
  subst ex
  cases r1 with
  | cons r rr =>
    cases rr
    cases r
    obtain ⟨its, rv, p', hz⟩ := I1.tuple hq
    refine call_enumerate_tup (show s1.heap.IsTuple a its.toArray from p') fun h' he hit hsz hk => wpAny_pyIter_enum he ?_
    have I2 : Inv X pins σ H1 { s1 with heap := h' } := I1.kept (t' := s1.toks) hk
    refine ⟨s1.heap.objs.size + 1, [s1.heap.objs.size + 1, s1.heap.objs.size], _, _, H1, rfl, I2, turn_enumT a (s1.heap.objs.size + 1) s1.heap.objs.size, ⟨⟨.none, he⟩, hit, Nat.succ_ne_self _⟩, fun b hb => ?_, q⟩
    have e' : b = s1.heap.objs.size + 1 ∨ b = s1.heap.objs.size := by simpa using hb
    have hle : s1.heap.objs.size ≤ b := by
      rcases e' with z | z
      · rw [z]; exact Nat.le_add_right _ _
      · rw [z]; exact Nat.le_refl _
    exact I1.fpOk hle (I1.hok.fresh hle)
/-! ### sorted(xs) of tuples of ints, also of at most one -/
theorem sort_short {prog : Program} {w : World} {A : Around} {E : Value → Shared → Prop} {s : Shared} {a : Addr} {vs : List Value} {n : Nat} {P : PySem.Fin → Shared → Prop} (ho : s.heap.get? a = some (seqObj "list" vs.toArray n)) (h1 : vs.length < 2)
    (h : ∀ out : Array Value, out.toList.Perm vs → P (.done (.ret .none)) { s with heap := sortedHeap s.heap a vs out }) :
    wpAny (model prog w) A (Builtin.«list.sort» ⟨[.ref a], []⟩) P E s :=
  SK.plain_sort (r := fun _ => 0) ho (by omega) (fun h2 Q hQ => absurd h2 (by omega)) fun ps out e1 e2 e3 => h out (TS.out_rank (r := fun _ => 0) e1 e2 e3).1
theorem sorted_short {prog : Program} {w : World} {A : Around} {E : Value → Shared → Prop} {s : Shared} {l : Addr} {vs : List Value} {Q : Value → Shared → Prop} (hl : s.heap.IsList l vs.toArray) (h1 : vs.length < 2)
    (h : ∀ out : Array Value, out.toList.Perm vs → Q (.ref (s.heap.objs.size + 1)) { s with heap := sortedAll s.heap vs out }) :
    wpAny (model prog w) A (call (.builtin "sorted") [.ref l]) Q E s := by
  refine Calls.call_function_entry kind_sorted plain_sorted entry_sorted (args_sorted1 _) ?_
  unfold Builtin.«sorted»
  refine wpAny_bind (m := checkCount "sorted" 1 1 _) (wpAny_pure ?_)
  refine wpAny_bind (collect_list hl ?_ (by rw [sizeLine_eq]; omega))
  refine wpAny_bind (wpAny_newList ?_ (by rw [sizeLine_eq]; omega))
  have hsz : ((s.heap.push (seqObj "list" #[] 0)).update s.heap.objs.size (Obj.mapSeq (· ++ vs.toArray))).objs.size = s.heap.objs.size + 1 := by
    rw [Heap.size_update, size_push']
  have hoL : (((s.heap.push (seqObj "list" #[] 0)).update s.heap.objs.size (Obj.mapSeq (· ++ vs.toArray))).push (seqObj "list" vs.toArray 0)).get? (s.heap.objs.size + 1) = some (seqObj "list" vs.toArray 0) := by
    rw [← hsz]; exact Heap.get?_push_size _ rfl
  show wpAny _ _ _ _ _ { s with heap := ((s.heap.push (seqObj "list" #[] 0)).update s.heap.objs.size (Obj.mapSeq (· ++ vs.toArray))).push (seqObj "list" vs.toArray 0) }
  rw [hsz]
  refine wpAny_bind (wpAny_holding (wpAny_call_entry slot_list_sort ⟨_, hoL, rfl⟩ entry_list_sort (sort_short hoL h1 fun out a1 => ⟨_, rfl, ?_⟩) (args_list_sort _)))
  exact wpAny_pure ⟨_, rfl, h out a1⟩
def rSortA (K : PySem.W.Frag) (B : Int) : List V → Hp → VK → Prop := fun vs H Q => (∃ d, 1 ≤ d ∧ rSortU K d B vs H Q) ∨
  ∃ (a : Addr) (xs : List V), vs = [V.ref a] ∧ SqL K H a xs ∧ xs.length < 2 ∧ (∀ x ∈ xs, ∃ t, x = .ref t) ∧ ∀ p, H p = none → Q (.ref p) (upd H p (.lst xs))
theorem perm_short {α : Type} {l m : List α} (h : l.Perm m) (h1 : m.length < 2) : l = m := by
  cases m with
  | nil => exact List.perm_nil.mp h
  | cons x r =>
    cases r with
    | nil => exact List.perm_singleton.mp h
    | cons y r => exact absurd h1 (by simp)
theorem cr_sortA {X : Cx} {B : Int} : CallR X (.builtin "sorted") (rSortA X.K B) := by
  intro pins s σ H vs us Q I r h
  rcases h with ⟨d, hd, h⟩ | ⟨a, xs, rfl, hs, h1, hx, q⟩
  · exact cr_sortT hd pins s σ H vs us Q I r h
  · obtain ⟨its, rv, hl, hz⟩ := I.list hs
    rw [Vals.ref1 r]
    obtain ⟨e1, e2⟩ := bkV_refs rv hx
    refine sorted_short hl.isList (by rw [← rv.length]; exact h1) fun out p1 => ?_
    · obtain ⟨ep, he'⟩ := PyProof.Rows.sortedAll_at s.heap its out
      have e9 : out.toList = its := perm_short p1 (by rw [← rv.length]; exact h1)
      refine ⟨.ref _, upd H (s.heap.objs.size + 1) (.lst xs), I.laid (t' := s.toks) (fun _ _ => PyProof.Rows.sortedAll_old) (Nat.le_succ _) ⟨hz, out.toList, ep, by rw [e9]; exact rv, he'⟩, rfl, q _ (I.hok.fresh (Nat.le_succ _))⟩
theorem walk_enumT {K : PySem.W.Frag} {a : Addr} {xs : List V} : Walk (Itet K a) xs.length (fun H => SqT K H a xs) (YPair (fun i => some (.int (i : Nat))) (fun i => xs[i]?)) := by
  refine ⟨fun i _ hi q => ⟨xs, xs[i], q, by simp [hi]⟩, fun _ q => ⟨xs, q, Nat.le_refl _⟩, fun i H v H' _ q y => ?_⟩
  obtain ⟨T, x, h1, h2, h3, h4⟩ := y
  exact ⟨T, .int (i : Nat), x, h1, h2, h3, rfl, h4 xs q⟩
end Ef
set_option maxHeartbeats 4000000
namespace Ef
open PySem PySem.Spec PyProof.Rows L2
/-! ### sorted(t) of a tuple of ints -/
section
variable {prog : Program} {w : World} {A : Around} {E : Value → Shared → Prop} {s : Shared}
theorem collect_tup {l : Addr} {vs : List Value} {Q : List Value → Shared → Prop} (hl : s.heap.IsTuple l vs.toArray) (hn : vs.length ≤ sizeLine)
    (h : Q vs { s with heap := (s.heap.push (seqObj "list" #[] 0)).update s.heap.objs.size (Obj.mapSeq (· ++ vs.toArray)) }) : wpAny (model prog w) A (collect (.ref l)) Q E s := by
  obtain ⟨o, ho, hc, n, hd⟩ := hl
  have h2 : (s.heap.push (seqObj "list" #[] 0)).get? l = some o := Heap.get?_push_of_some _ ho
  have h3 : (s.heap.push (seqObj "list" #[] 0)).get? s.heap.objs.size = some (seqObj "list" #[] 0) := Heap.get?_push_size _ rfl
  have h4 : ((#[] : Array Value) ++ vs.toArray).toList = vs := by simp
  have h5 : (#[] ++ vs.toArray).size ≤ sizeLine + 1 := by
    simp only [Array.size_append, List.size_toArray, List.length_nil]
    omega
  unfold collect
  refine wpAny_bind (wpAny_runValue (codeAny_builtin entry_proto_collect' (show wpAny _ _ (do again (.builtin "list.__iadd__" ⟨[← newList [], .ref l], []⟩)) _ _ s from ?_)))
  refine wpAny_bind (wpAny_newList (wpAny_pure ⟨Code.quiet_builtin _ (by decide +kernel), codeAny_builtin entry_list_iadd' (show wpAny _ _ (Builtin.List.listExtendWith (.ref s.heap.objs.size) (.ref l) (.ref s.heap.objs.size)) _ _ { s with heap := s.heap.push (seqObj "list" #[] 0) } from ?_)⟩))
  unfold Builtin.List.listExtendWith
  refine wpAny_bind (wpAny_typeOf (T := "tuple") ⟨o, h2, hc⟩ ?_)
  rw [if_pos (by rw [show (Value.type "tuple" == Value.type "tuple") = true from rfl]; simp)]
  refine wpAny_bind (listItems_at h2 hd (wpAny_bind (listItems_at (xs := #[]) (n := 0) h3 rfl ?_)))
  rw [if_neg (by simp)]
  refine wpAny_bind (listUpdate_at (xs := #[]) (n := 0) h3 rfl (wpAny_pure ?_) (Nat.zero_le _) h5)
  show wpAny (model prog w) A (do
      let o ← load s.heap.objs.size
      match o.data with
      | .seq ys _ => pure ys.toList
      | _ => unsupported "internal:collect") Q E { s with heap := (s.heap.push (seqObj "list" #[] 0)).update s.heap.objs.size (Obj.mapSeq (· ++ vs.toArray)) }
  refine wpAny_bind (wpAny_load (get?_update_seq h3 _) (show wpAny _ _ (pure ((#[] : Array Value) ++ vs.toArray).toList) Q E _ from ?_))
  rw [h4]
  exact wpAny_pure h
theorem sorted_tup {l : Addr} {vs : List Value} {ns : List Int} {Q : Value → Shared → Prop} (hl : s.heap.IsTuple l vs.toArray) (hI : IntsAre vs ns) (hn : vs.length < 64)
    (h : ∀ (out : Array Value) (ns' : List Int), IntsAre out.toList ns' → ns'.Perm ns → ns'.Pairwise (· ≤ ·) → Q (.ref (s.heap.objs.size + 1)) { s with heap := sortedAll s.heap vs out }) :
    wpAny (model prog w) A (call (.builtin "sorted") [.ref l]) Q E s := by
  refine Calls.call_function_entry kind_sorted plain_sorted entry_sorted (args_sorted1 (.ref l)) ?_
  unfold Builtin.«sorted»
  refine wpAny_bind (m := checkCount "sorted" 1 1 _) (wpAny_pure (wpAny_bind (collect_tup hl (by rw [sizeLine_eq]; omega) (wpAny_bind (wpAny_newList ?_ (by rw [sizeLine_eq]; omega))))))
  have z1 : ((s.heap.push (seqObj "list" #[] 0)).update s.heap.objs.size (Obj.mapSeq (· ++ vs.toArray))).objs.size = s.heap.objs.size + 1 := (Heap.size_update ..).trans (size_push' ..)
  have z2 := Heap.get?_push_size ((s.heap.push (seqObj "list" #[] 0)).update s.heap.objs.size (Obj.mapSeq (· ++ vs.toArray))) (o := seqObj "list" vs.toArray 0) rfl
  rw [z1] at z2
  show wpAny _ _ _ _ _ { s with heap := ((s.heap.push (seqObj "list" #[] 0)).update s.heap.objs.size (Obj.mapSeq (· ++ vs.toArray))).push (seqObj "list" vs.toArray 0) }
  rw [z1]
  refine wpAny_bind (wpAny_holding (wpAny_call_entry slot_list_sort ⟨_, z2, rfl⟩ entry_list_sort (list_sort_tree z2 hI hn fun out ns' a1 a2 a3 => ⟨_, rfl, wpAny_pure ⟨_, rfl, h out ns' a1 a2 a3⟩⟩) (args_list_sort _)))
end
def rSortTI (K : PySem.W.Frag) : List V → Hp → VK → Prop := fun vs H Q => ∃ (a : Addr) (ns : List Int), vs = [V.ref a] ∧ (SqL K H a (ns.map V.int) ∨ SqT K H a (ns.map V.int)) ∧ ns.length < 64 ∧
  ∀ (ns' : List Int) (p : Addr), ns'.Perm ns → ns'.Pairwise (· ≤ ·) → H p = none → Q (.ref p) (upd H p (.lst (ns'.map V.int)))
section
variable {X : Cx} (K : PySem.W.Frag)
theorem cr_sortTI (h : X.K = K := by rfl) : CallR X (.builtin "sorted") (rSortTI K) := by
  subst h
  intro pins s σ H vs us Q I r h
  obtain ⟨a, ns, rfl, hs | hs, h64, q⟩ := h
  · exact cr_sorted pins s σ H _ us Q I r ⟨a, ns, rfl, hs, h64, q⟩
  · obtain ⟨its, rv, hl, hz⟩ := I.tuple hs
    rw [Vals.ref1 r]
    have hi := rv.ints
    refine sorted_tup (show s.heap.IsTuple a its.toArray from hl) hi (by rw [hi.length]; exact h64) fun out ns' h1 h2 h3 => ?_
    obtain ⟨ep, he'⟩ := PyProof.Rows.sortedAll_at s.heap its out
    have hlen : (ns'.map V.int).length ≤ sizeLine := by
      rw [List.length_map, h2.length_eq]
      exact small64 h64
    exact ⟨.ref _, upd H (s.heap.objs.size + 1) (.lst (ns'.map V.int)), I.laid (t' := s.toks) (fun _ _ => PyProof.Rows.sortedAll_old) (Nat.le_succ _) ⟨hlen, out.toList, ep, vals_of_ints h1, he'⟩, rfl, q ns' _ h2 h3 (I.hok.fresh (Nat.le_succ _))⟩
end
end Ef
set_option maxHeartbeats 4000000
namespace Ef
open PySem PySem.Spec PyProof.Rows L2
open AutoSeq1 (wpAny_loadPart')
/-! ### list(reversed(range(..))) -/
section
variable {prog : Program} {w : World} {A : Around} {E : Value → Shared → Prop} {s : Shared} {I : Addr} {a c : Int} {n : Nat}
theorem hint_rit {x y z : Int} {Q : Value → Shared → Prop} (hi : IsRangeIter s.heap I x y z) (hb : 0 ≤ y ∧ y < 2 ^ 24)
    (h : ∀ u tk, s.toks ≤ tk → Q (.int y u) { s with toks := tk }) : wpAny (model prog w) A (call (.builtin "range_iterator.__length_hint__") [.ref I]) Q E s := by
  have hT : s.TypeIs (.ref I) "range_iterator" := ⟨_, hi, rfl⟩
  refine wpAny_call_entry F.slot_range_iterator_length_hint hT F.entry_range_iterator_length_hint ?_ (F.args_range_iterator_length_hint_1 _)
  obtain ⟨hp, g, d, tk, os⟩ := s
  wp_walk using wpAny_loadPart' hi
  exact ⟨_, rfl, h _ _ (Nat.le_succ _)⟩
theorem extend_rit {R : Result → Shared → Prop} (hh : A.handled = none) (hn : n < 2 ^ 24) (hit : IsRangeIter s.heap I (a + ((0 : Nat) : Int) * c) ((n : Int) - ((0 : Nat) : Int)) c) (S : Addr) (c₀ : Nat) (hSI : S ≠ I)
    (hS : s.heap.get? S = some { cls := .type "list", data := .seq #[] c₀ })
    (hR : ∀ h' tk acc' c', (∀ b o, b ≠ S → b ≠ I → s.heap.get? b = some o → h'.get? b = some o) → h'.get? S = some { cls := .type "list", dict := none, data := .seq acc' c', slots := #[] } →
      ItemsOf (fun i v => ∃ t, v = .int (a + i * c) t) acc' n → R (.ok (.ret .none)) { s with heap := h', toks := tk }) :
    wpAny (model prog w) A.in1 (Builtin.List.listExtendWith (.ref S) (.ref I) .none)
      (fun fin s' => match fin with | .done f => R (.ok f) s' | .again c' => c'.quiet = true ∧ codeAny (model prog w) A c' R s') (fun e s' => R (.error e) s') s := by
  have W := (Walks.range (prog := prog) (w := w) (A := A.in1) hh I a c n).toS
  have hSf : S ∉ [I] := fun hm => hSI (List.mem_singleton.mp hm)
  have hT : s.TypeIs (.ref I) "range_iterator" := ⟨_, hit, rfl⟩
  have z1 : Builtin.List.listSameRef (.ref S) (.ref I) = false := by simp [Builtin.List.listSameRef, hSI]
  unfold Builtin.List.listExtendWith
  refine wpAny_bind (wpAny_typeOf hT ?_)
  rw [if_neg (by rw [z1]; decide)]
  refine wpAny_bind (W.self 0 _ _ _ hit (wpAny_bind (wpAny_holding ?_)))
  unfold Builtin.List.listLengthHint
  refine wpAny_bind (wpAny_specialOf hT F.nolen_ra ?_)
  show wpAny _ A.in1 (specialOf (Value.ref I) (Str.ofString "__length_hint__") >>= _) _ _ _
  refine wpAny_bind (wpAny_specialOf hT F.hint_ra ?_)
  generalize hid : ("range_iterator.__length_hint__" : String) = id0
  wp_delta
  rw [show splitId id0 = some ("range_iterator", "__length_hint__") from by subst hid; decide +kernel]
  subst hid
  refine wpAny_bind (wpAny_isInstance (b := true) hT (by rw [isSubtype_type]; kernel_rfl) ?_)
  show wpAny _ A.in1 (call (.builtin "range_iterator.__length_hint__") [.ref I] >>= _) _ _ _
  have e0 : (n : Int) - ((0 : Nat) : Int) = (n : Int) := by omega
  refine wpAny_bind (hint_rit hit (by rw [e0]; omega) fun u tk htk => ?_)
  refine wpAny_bind (m := asInt? (.int _ u)) (wpAny_pure ?_)
  have z2 : Builtin.List.listTooLong (Int.toNat ((n : Int) - ((0 : Nat) : Int))) = false := by
    rw [e0]
    simp [Builtin.List.listTooLong, sizeLine]
    omega
  dsimp only
  rw [if_neg (by rw [z2]; decide)]
  refine wpAny_pure ?_
  rw [if_neg (by decide)]
  refine wpAny_pure ⟨plainId_quiet F.plain_extend_loop _, codeAny_extend_loopS W (by rw [sizeLine_eq]; omega) S hSf .none n 0 _ #[] c₀ rfl (Nat.zero_le _) hit hS (ItemsOf.nil _) fun s' acc' c' hm hS' hacc => ?_⟩
  rw [Moved.eq_with hm]
  refine hR s'.heap s'.toks acc' c' (fun b o hb hb2 e => hm.heap b o (fun hmem => ?_) e) hS' hacc
  rcases List.mem_cons.mp hmem with e' | hmem
  · exact hb e'
  · exact hb2 (List.mem_singleton.mp hmem)
theorem call_list_rit {Q : Value → Shared → Prop} (hh : A.handled = none) (hn : n < 2 ^ 24) (hit : IsRangeIter s.heap I (a + ((0 : Nat) : Int) * c) ((n : Int) - ((0 : Nat) : Int)) c)
    (hQ : ∀ h' tk acc' c', (∀ b o, b ≠ I → s.heap.get? b = some o → h'.get? b = some o) →
      h'.get? s.heap.objs.size = some { cls := .type "list", dict := none, data := .seq acc' c', slots := #[] } → ItemsOf (fun i v => ∃ t, v = .int (a + i * c) t) acc' n → Q (.ref s.heap.objs.size) { s with heap := h', toks := tk }) :
    wpAny (model prog w) A (call (.type "list") [.ref I]) Q E s := by
  have hIl : I < s.heap.objs.size := Heap.lt_size hit
  refine callType_codes (Q₁ := fun obj s₁ => obj = .ref s.heap.objs.size ∧ s₁ = { s with heap := s.heap.push { cls := .type "list", data := .seq #[] } }) F.called_list (F.typeCall_list_1 _) F.entry_list_init
    (code_list_new _ ⟨rfl, rfl⟩) fun obj s₁ h₁ => ?_
  obtain ⟨rfl, rfl⟩ := h₁
  have hS : (s.heap.push { cls := .type "list", data := .seq #[] }).get? s.heap.objs.size = some { cls := .type "list", data := .seq #[] } := Heap.get?_push_size _ rfl
  refine ⟨⟨_, hS, rfl⟩, F.args_list_init_2 _ _, ?_⟩
  show wpAny _ _ (do let old ← Builtin.List.listItems (.ref s.heap.objs.size); Builtin.List.listUpdate (.ref s.heap.objs.size) (fun _ => #[]); letGo old.toList.reverse; Builtin.List.listExtendWith (.ref s.heap.objs.size) (.ref I) .none) _ _ _
  refine wpAny_bind ?_
  unfold Builtin.List.listItems
  refine wpAny_bind (wpAny_seqItems hS rfl (wpAny_pure ?_))
  show wpAny _ _ (updateSeq s.heap.objs.size (fun _ => #[]) >>= fun _ => letGo (#[] : Array Value).toList.reverse >>= fun _ => Builtin.List.listExtendWith (.ref s.heap.objs.size) (.ref I) .none) _ _ _
  refine wpAny_bind (wpAny_updateSeq hS rfl ?_)
  have hS₂ := Heap.get?_update_self (Obj.mapSeq (fun _ => (#[] : Array Value))) hS rfl
  have oth : ∀ b o, b ≠ s.heap.objs.size → (s.heap.push { cls := .type "list", data := .seq #[] }).get? b = some o → ((s.heap.push { cls := .type "list", data := .seq #[] }).update s.heap.objs.size (Obj.mapSeq (fun _ => (#[] : Array Value)))).get? b = some o :=
    fun b o hb e => (Heap.get?_update_other _ _ (Ne.symm hb)).trans e
  refine wpAny_bind (wpAny_letGo ?_)
  refine extend_rit (A := A.in1) hh hn (oth I _ (Nat.ne_of_lt hIl) (Heap.get?_push_of_some _ hit)) s.heap.objs.size _ (Nat.ne_of_gt hIl) hS₂ fun h' tk acc' c' hk hS' hacc => ?_
  exact ⟨rfl, hQ h' tk acc' c' (fun b o hb e => hk b o (Nat.ne_of_lt (Heap.lt_size e)) hb (oth b o (Nat.ne_of_lt (Heap.lt_size e)) (Heap.get?_push_of_some _ e))) hS' hacc⟩
end
def tLstRev (te : L2.St → Hp → (Int → Int → Hp → Prop) → Prop) : TE := fun σ H Q => te σ H fun a b H1 => RgOk a b ∧ (b - a).toNat < 2 ^ 24 ∧ ∀ q, H1 q = none → Q (.ref q) (upd H1 q (.lst (rgV a b).reverse))
theorem rg_rev (a b : Int) : (rgV a b).reverse = (List.range (b - a).toNat).map fun i => V.int (a + (((b - a).toNat : Nat) : Int) - 1 + (i : Nat) * (-1)) := by
  unfold rgV
  refine List.ext_getElem (by simp) fun i h1 h2 => ?_
  rw [List.getElem_reverse, List.getElem_map, List.getElem_map, List.getElem_range, List.getElem_range, List.length_map, List.length_range]
  rw [List.length_map, List.length_range] at h2
  congr 1
  omega
theorem vals_of {f : Nat → Int} {acc : Array Value} {n : Nat} (h : ItemsOf (fun i v => ∃ t, v = .int (f i) t) acc n) : Vals ((List.range n).map fun i => V.int (f i)) acc.toList := by
  have e : acc.toList.length = n := by rw [Array.length_toList]; exact h.1
  rw [← e]
  refine vals_of_get acc.toList _ fun j u hj => ?_
  obtain ⟨t, rfl⟩ := h.2 j u (by rw [← hj, Array.getElem?_toList])
  exact ⟨t, rfl⟩
section
variable {X : Cx} {e : Expr} {te : L2.St → Hp → (Int → Int → Hp → Prop) → Prop}
theorem pe_listRev {p pos p2 pos2 : Pos} (hc : X.calm = true) (hg : Gl X "list") (hm : X.mg "list" = none) (hg2 : Gl X "reversed") (hm2 : X.mg "reversed" = none) (he : PRg X e te)
    (na : starEach [.Call (.Name "reversed" p2) [e] [] pos2] X.env = (false, eval (.Call (.Name "reversed" p2) [e] [] pos2) X.env) :: starEach [] X.env := by rfl) (nb : starEach [e] X.env = (false, eval e X.env) :: starEach [] X.env := by rfl) :
    PE X (.Call (.Name "list" p) [.Call (.Name "reversed" p2) [e] [] pos2] [] pos) (tLstRev te) := by
  refine ⟨fun pins s σ H Q I h => ?_⟩
  refine Call_ (ld_blt I hg hm boot_list (PyProof.Rows.callWith_type1 (args_cons (Call_ (ld_blt I hg2 hm2 PyProof.Rows.boot_reversed (PyProof.Rows.callWith_type1 (args_cons (thn (he pins s σ H _ I h) fun x s1 ⟨r, a, b, t, u, v, H1, ex, hr, I1, ok, hb, q⟩ => args_nil ?_) nb) nb rfl))) na) na))
  subst ex
  obtain ⟨b1, b2, b3, b4, b5⟩ := ok
  have hn : Builtin.Range.rangeSize a b 1 = (((b - a).toNat : Nat) : Int) := rangeSize_nat a b
  refine call_reversed_range hr (smallRev_one b1 b2 b3 b4) (args_nil ?_)
  have hit : IsRangeIter (s1.heap.push (rngRevObj a b 1)) s1.heap.objs.size (a + (((b - a).toNat : Nat) : Int) - 1 + ((0 : Nat) : Int) * (-1)) ((((b - a).toNat : Nat) : Int) - ((0 : Nat) : Int)) (-1) := by
    have e1 : a + (((b - a).toNat : Nat) : Int) - 1 + ((0 : Nat) : Int) * (-1) = a + (Builtin.Range.rangeSize a b 1 - 1) * 1 := by rw [hn]; omega
    have e2 : (((b - a).toNat : Nat) : Int) - ((0 : Nat) : Int) = Builtin.Range.rangeSize a b 1 := by rw [hn]; omega
    rw [e1, e2]
    exact Heap.get?_push_size _ rfl
  have hsz : (s1.heap.push (rngRevObj a b 1)).objs.size = s1.heap.objs.size + 1 := size_push' ..
  refine call_list_rit (I1.ok.hd hc) hb hit fun h' tk acc c' hk e' hi => ?_
  have kp : ∀ x o, s1.heap.get? x = some o → h'.get? x = some o := fun x o z => hk x o (Nat.ne_of_lt (Heap.lt_size z)) (Heap.get?_push_of_some _ z)
  have ei := rg_rev a b
  have hlen : ((rgV a b).reverse).length ≤ sizeLine := by
    rw [List.length_reverse, rgV_length, sizeLine_eq]
    omega
  show EP X pins σ Q (.ref (s1.heap.push (rngRevObj a b 1)).objs.size) _
  rw [hsz] at e' ⊢
  refine ⟨.ref (s1.heap.objs.size + 1), upd H1 (s1.heap.objs.size + 1) (.lst (rgV a b).reverse), I1.laid (t' := tk) kp (Nat.le_succ _) ⟨hlen, acc.toList, c', ?_, ?_⟩, rfl, q _ (I1.hok.fresh (Nat.le_succ _))⟩
  · rw [ei]
    exact vals_of hi
  · rw [Array.toArray_toList]
    exact e'
end
end Ef
set_option maxHeartbeats 4000000
namespace Ef
open PySem PySem.Spec PyProof.Rows L2
/-! ### list(range(i, j, c)) -/
def rgC (i c : Int) (n : Nat) : List V := (List.range n).map fun k => V.int (i + (k : Nat) * c)
def tLstRgC (ta : TA) : TE := fun σ H Q => ta σ H fun vs H1 => ∃ (i j c : Int) (n : Nat), vs = [.int i, .int j, .int c] ∧ RgC i j c n ∧ n ≤ 2 ^ 24 ∧ ∀ q, H1 q = none → Q (.ref q) (upd H1 q (.lst (rgC i c n)))
section
variable {X : Cx}
theorem pe_listRgC {a b c : Expr} {ta : TA} {p pos p2 pos2 : Pos} (hc : X.calm = true) (hg : Gl X "list") (hm : X.mg "list" = none) (hg2 : Gl X "range") (hm2 : X.mg "range" = none) (ha : PA X [a, b, c] ta)
    (n1 : starEach [a, b, c] X.env = (false, eval a X.env) :: starEach [b, c] X.env := by rfl) (n2 : (backTo pos2 (starEach [b, c] X.env)).any (·.1) = false := by rfl)
    (n3 : starEach [.Call (.Name "range" p2) [a, b, c] [] pos2] X.env = (false, eval (.Call (.Name "range" p2) [a, b, c] [] pos2) X.env) :: starEach [] X.env := by rfl) :
    PE X (.Call (.Name "list" p) [.Call (.Name "range" p2) [a, b, c] [] pos2] [] pos) (tLstRgC ta) := by
  refine ⟨fun pins s σ H Q I h => ?_⟩
  refine Call_ (ld_blt I hg hm boot_list (PyProof.Rows.callWith_type1 (args_cons (Call_ (ld_blt I hg2 hm2 boot_range ?_)) n3) n3))
  refine PyProof.Rows.callWith_type1 ?_ n1 n2
  refine thn (ha.run pos2 pins s σ H _ I h) ?_
  rintro us s1 ⟨vs, H1, I1, r1, q1⟩
  obtain ⟨i, j, k, n, ev, ⟨c0, c1, c2, c3⟩, hn, q⟩ := q1
  subst ev
  match us, r1 with
  | [_, _, _], .cons ⟨t1, e1⟩ (.cons ⟨t2, e2⟩ (.cons ⟨t3, e3⟩ .nil)) =>
    subst e1 e2 e3
    refine call_range_3 c0 (args_nil ?_) (.inl (PyProof.noPylong_small c1))
    have I2 : Inv X pins σ H1 { s1 with heap := s1.heap.push { cls := .type "range", data := .fields #[.int i t1, .int j t2, .int k t3] } } := I1.kept (t' := s1.toks) fun _ _ z => Heap.get?_push_of_some _ z
    refine call_list_range (n := n) (I2.ok.hd hc) (IsRange.new ..) c2 c3 hn fun h' tk acc c' hk e' hi => ?_
    refine ⟨.ref _, upd H1 _ (.lst (rgC i k n)), I2.laid hk (Nat.le_refl _) (show ObjOk X.prog X.w _ _ _ (.lst (rgC i k n)) from ⟨?_, acc.toList, c', vals_of hi, ?_⟩), rfl, q _ (I2.hok.fresh (Nat.le_refl _))⟩
    · unfold rgC
      rw [List.length_map, List.length_range, sizeLine_eq]
      omega
    · rw [Array.toArray_toList]
      exact e'
end
/-! ### list(reversed(xs)), xs a list -/
section
variable {prog : Program} {w : World} {A : Around} {E : Value → Shared → Prop} {s : Shared} {I l : Addr} {xs : Array Value}
theorem extend_rev {R : Result → Shared → Prop} (hh : A.handled = none) (hn : xs.size ≤ sizeLine) (hit : s.heap.IsRevIter I l ((xs.size : Int) - 1)) (hl : s.heap.IsList l xs) (hne : l ≠ I) (S : Addr) (c₀ : Nat) (hSI : S ≠ I) (hSl : S ≠ l)
    (hS : s.heap.get? S = some { cls := .type "list", data := .seq #[] c₀ })
    (hR : ∀ h' tk acc' c', (∀ b o, b ≠ S → b ≠ I → s.heap.get? b = some o → h'.get? b = some o) → h'.get? S = some { cls := .type "list", dict := none, data := .seq acc' c', slots := #[] } →
      ItemsOf (fun i v => xs[xs.size - 1 - i]? = some v) acc' xs.size → R (.ok (.ret .none)) { s with heap := h', toks := tk }) :
    wpAny (model prog w) A.in1 (Builtin.List.listExtendWith (.ref S) (.ref I) .none)
      (fun fin s' => match fin with | .done f => R (.ok f) s' | .again c' => c'.quiet = true ∧ codeAny (model prog w) A c' R s') (fun e s' => R (.error e) s') s := by
  have Wk := (Walks.listRev (prog := prog) (w := w) (A := A.in1) hh I l hne xs).toS
  have hSf : S ∉ [I, l] := by
    intro hm
    rcases List.mem_cons.mp hm with z | z
    · exact hSI z
    · exact hSl (List.mem_singleton.mp z)
  have hT : s.TypeIs (.ref I) "list_reverseiterator" := Heap.IsRevIter.typeIs hit
  have z1 : Builtin.List.listSameRef (.ref S) (.ref I) = false := by simp [Builtin.List.listSameRef, hSI]
  unfold Builtin.List.listExtendWith
  refine wpAny_bind (wpAny_typeOf hT ?_)
  rw [if_neg (by rw [z1]; decide)]
  refine wpAny_bind (wpAny_pyIter_revIter hit (wpAny_bind (wpAny_holding ?_)))
  unfold Builtin.List.listLengthHint
  refine wpAny_bind (wpAny_specialOf hT RT.nolen_lri ?_)
  show wpAny _ A.in1 (specialOf (Value.ref I) (Str.ofString "__length_hint__") >>= _) _ _ _
  refine wpAny_bind (wpAny_specialOf hT RT.hint_lri ?_)
  generalize hid : ("list_reverseiterator.__length_hint__" : String) = id1
  wp_delta
  rw [show splitId id1 = some ("list_reverseiterator", "__length_hint__") from by subst hid; decide +kernel]
  subst hid
  refine wpAny_bind (wpAny_isInstance (b := true) hT (by rw [isSubtype_type]; kernel_rfl) ?_)
  refine wpAny_pure ?_
  rw [if_neg (by decide)]
  have z0 : ((xs.size : Nat) : Int) - 1 - ((0 : Nat) : Int) = (xs.size : Int) - 1 := by omega
  refine wpAny_pure ⟨plainId_quiet F.plain_extend_loop _, codeAny_extend_loopS Wk hn S hSf .none xs.size 0 _ #[] c₀ rfl (Nat.zero_le _) ⟨Nat.zero_le _, by rw [z0]; exact hit, hl⟩ hS (ItemsOf.nil _) fun s' acc' c' hm hS' hacc => ?_⟩
  rw [Moved.eq_with hm]
  refine hR s'.heap s'.toks acc' c' (fun b o hb hb2 e => hm.heap b o (fun hmem => ?_) e) hS' hacc
  rcases List.mem_cons.mp hmem with z | hmem
  · exact hb z
  · exact hb2 (List.mem_singleton.mp hmem)
theorem call_list_rev {Q : Value → Shared → Prop} (hh : A.handled = none) (hn : xs.size ≤ sizeLine) (hit : s.heap.IsRevIter I l ((xs.size : Int) - 1)) (hl : s.heap.IsList l xs) (hne : l ≠ I)
    (hQ : ∀ h' tk acc' c', (∀ b o, b ≠ I → s.heap.get? b = some o → h'.get? b = some o) →
      h'.get? s.heap.objs.size = some { cls := .type "list", dict := none, data := .seq acc' c', slots := #[] } → ItemsOf (fun i v => xs[xs.size - 1 - i]? = some v) acc' xs.size → Q (.ref s.heap.objs.size) { s with heap := h', toks := tk }) :
    wpAny (model prog w) A (call (.type "list") [.ref I]) Q E s := by
  obtain ⟨oi, hoi, _⟩ := id hit
  obtain ⟨ol, hol, _⟩ := id hl
  have hIl := Heap.lt_size hoi
  have hll := Heap.lt_size hol
  refine callType_codes (Q₁ := fun obj s₁ => obj = .ref s.heap.objs.size ∧ s₁ = { s with heap := s.heap.push { cls := .type "list", data := .seq #[] } }) F.called_list (F.typeCall_list_1 _) F.entry_list_init
    (code_list_new _ ⟨rfl, rfl⟩) fun obj s₁ h₁ => ?_
  obtain ⟨rfl, rfl⟩ := h₁
  have hS : (s.heap.push { cls := .type "list", data := .seq #[] }).get? s.heap.objs.size = some { cls := .type "list", data := .seq #[] } := Heap.get?_push_size _ rfl
  refine ⟨⟨_, hS, rfl⟩, F.args_list_init_2 _ _, ?_⟩
  show wpAny _ _ (do let old ← Builtin.List.listItems (.ref s.heap.objs.size); Builtin.List.listUpdate (.ref s.heap.objs.size) (fun _ => #[]); letGo old.toList.reverse; Builtin.List.listExtendWith (.ref s.heap.objs.size) (.ref I) .none) _ _ _
  refine wpAny_bind ?_
  unfold Builtin.List.listItems
  refine wpAny_bind (wpAny_seqItems hS rfl (wpAny_pure ?_))
  show wpAny _ _ (updateSeq s.heap.objs.size (fun _ => #[]) >>= fun _ => letGo (#[] : Array Value).toList.reverse >>= fun _ => Builtin.List.listExtendWith (.ref s.heap.objs.size) (.ref I) .none) _ _ _
  refine wpAny_bind (wpAny_updateSeq hS rfl ?_)
  have hS₂ := Heap.get?_update_self (Obj.mapSeq (fun _ => (#[] : Array Value))) hS rfl
  have oth : ∀ b o, b ≠ s.heap.objs.size → (s.heap.push { cls := .type "list", data := .seq #[] }).get? b = some o → ((s.heap.push { cls := .type "list", data := .seq #[] }).update s.heap.objs.size (Obj.mapSeq (fun _ => (#[] : Array Value)))).get? b = some o :=
    fun b o hb e => (Heap.get?_update_other _ _ (Ne.symm hb)).trans e
  refine wpAny_bind (wpAny_letGo ?_)
  have kp : ∀ b o, s.heap.get? b = some o → ((s.heap.push { cls := .type "list", data := .seq #[] }).update s.heap.objs.size (Obj.mapSeq (fun _ => (#[] : Array Value)))).get? b = some o := fun b o e => oth b o (Nat.ne_of_lt (Heap.lt_size e)) (Heap.get?_push_of_some _ e)
  refine extend_rev (A := A.in1) hh hn (hit.at fun o e => kp _ o e) (hl.at fun o e => kp _ o e) hne s.heap.objs.size _ (Nat.ne_of_gt hIl) (Nat.ne_of_gt hll) hS₂ fun h' tk acc' c' hk hS' hacc => ?_
  exact ⟨rfl, hQ h' tk acc' c' (fun b o hb e => hk b o (Nat.ne_of_lt (Heap.lt_size e)) hb (kp b o e)) hS' hacc⟩
end
def tLstRevL (K : PySem.W.Frag) (te : TE) : TE := fun σ H Q => te σ H fun v H1 => ∃ (a : Addr) (xs : List V), v = .ref a ∧ SqL K H1 a xs ∧ ∀ q, H1 q = none → Q (.ref q) (upd H1 q (.lst xs.reverse))
section
variable {X : Cx}
theorem pe_listRevL {e : Expr} {te : TE} {p p2 pos pos2 : Pos} (hc : X.calm = true) (hg : Gl X "list") (hm : X.mg "list" = none) (hg2 : Gl X "reversed") (hm2 : X.mg "reversed" = none) (he : PE X e te)
    (hs : starEach [e] X.env = (false, eval e X.env) :: starEach [] X.env := by rfl)
    (hs2 : starEach [.Call (.Name "reversed" p2) [e] [] pos2] X.env = (false, eval (.Call (.Name "reversed" p2) [e] [] pos2) X.env) :: starEach [] X.env := by rfl) :
    PE X (.Call (.Name "list" p) [.Call (.Name "reversed" p2) [e] [] pos2] [] pos) (tLstRevL X.K te) := by
  refine ⟨fun pins s σ H Q I h => ?_⟩
  refine Call_ (ld_blt I hg hm boot_list (PyProof.Rows.callWith_type1 (args_cons (Call_ (ld_blt I hg2 hm2 PyProof.Rows.boot_reversed (PyProof.Rows.callWith_type1 (args_cons (thn (he.run pins s σ H _ I h) fun u s1 ⟨v, H1, I1, r1, q1⟩ => args_nil ?_) hs) hs rfl))) hs2) hs2 rfl))
  obtain ⟨a, xs, ev, hq, q⟩ := q1
  subst ev
  obtain rfl : u = Value.ref a := r1
  obtain ⟨its, rv, pl, hz⟩ := I1.list hq
  refine call_reversed_list pl.isList (args_nil ?_)
  have I2 : Inv X pins σ H1 { s1 with heap := s1.heap.push (revObj a ((its.toArray.size : Int) - 1)) } := I1.kept (t' := s1.toks) fun b o z => Heap.get?_push_of_some _ z
  obtain ⟨f0, f1, f2, f3, f4, f5⟩ := I1.fpOk (H' := H1) (b := s1.heap.objs.size) (Nat.le_refl _) (I1.hok.fresh (Nat.le_refl _))
  have hl := pl.isList
  obtain ⟨ol, hol, _⟩ := id hl
  have hsz : (s1.heap.push (revObj a ((its.toArray.size : Int) - 1))).objs.size = s1.heap.objs.size + 1 := size_push' ..
  refine call_list_rev (s := { s1 with heap := s1.heap.push (revObj a ((its.toArray.size : Int) - 1)) }) (I1.ok.hd hc) (by rw [List.size_toArray, ← rv.length]; exact hz) ⟨_, Heap.get?_push_size _ rfl, rfl, rfl⟩ (hl.push _) (Nat.ne_of_lt (Heap.lt_size hol)) fun h' tk acc c' hk e' hi => ?_
  have I3 : Inv X pins σ H1 { s1 with heap := h', toks := tk } := I2.turned (t' := tk) (fun b o hb z => hk b o hb z) f0 f1 f3 f4 f5
  have kp : ∀ b o, s1.heap.get? b = some o → h'.get? b = some o := fun b o z => hk b o (Nat.ne_of_lt (Heap.lt_size z)) (Heap.get?_push_of_some _ z)
  show EP X pins σ Q (.ref (s1.heap.push (revObj a ((its.toArray.size : Int) - 1))).objs.size) _
  rw [hsz]
  have e2 : h'.get? (s1.heap.objs.size + 1) = some { cls := .type "list", dict := none, data := .seq acc c', slots := #[] } := by
    rw [← hsz]
    exact e'
  refine ⟨.ref (s1.heap.objs.size + 1), upd H1 (s1.heap.objs.size + 1) (.lst xs.reverse), I1.laid (t' := tk) kp (Nat.le_succ _) ⟨by rw [List.length_reverse]; exact hz, acc.toList, c', RT.vals_rev rv hi, ?_⟩, rfl, q _ (I1.hok.fresh (Nat.le_succ _))⟩
  rw [Array.toArray_toList]
  exact e2
end
end Ef
namespace Ef
open PySem PySem.Spec PyProof.Rows L2
/-! ### repr of a list of one value of any sort -/
section
variable {X : Cx} {es : List Expr} {t : TA} {pos : Pos}
def tLstN (t : TA) : TE := fun σ H Q => t σ H fun xs H1 => xs.length ≤ sizeLine ∧ ∀ p, H1 p = none → p ≠ sysModules → Q (.ref p) (upd H1 p (.lst xs))
theorem far_new {pins : List (Addr × Obj)} {σ : L2.St} {H : Hp} {s : Shared} (I : Inv X pins σ H s) : s.heap.objs.size ≠ sysModules := by
  obtain ⟨mc, h1, _⟩ := I.nolimit
  have h2 : cStatics < s.heap.objs.size := h1.lt
  have h3 : (2 : Nat) < s.heap.objs.size := h2
  show ¬ s.heap.objs.size = 1
  omega
theorem pe_lstN (h : PA X es t) : PE X (.List es pos) (tLstN t) := by
  refine ⟨fun pins s σ H Q I hq => ?_⟩
  refine wpAny_List_spliced (thn (h.run pos pins s σ H _ I hq) fun us s1 ⟨xs, H1, I1, r, z, q⟩ => ⟨by rw [← r.length]; exact z, ?_⟩)
  have hf : H1 s1.heap.objs.size = none := I1.hok.fresh (Nat.le_refl _)
  refine ⟨.ref s1.heap.objs.size, upd H1 s1.heap.objs.size (.lst xs), I1.laid (t' := s1.toks) (fun b u e => Heap.get?_push_of_some _ e) (Nat.le_refl _) ?_, rfl, q _ hf (far_new I1)⟩
  exact ⟨z, us, 0, r, Heap.get?_push_size _ rfl⟩
end
/-- data that is not deep, or an empty dict -/
def ItemS (K : PySem.W.Frag) (H : Hp) (v : V) (d : PyData) : Prop := (Dp K H v d ∧ Sh 50 70000 d) ∨ (d = .dict [] ∧ ∃ p, v = .ref p ∧ H p = some (.dK []))
theorem ItemS.mono {K : PySem.W.Frag} {H H' : Hp} {v : V} {d : PyData} (s : Same H H') (h : ItemS K H v d) : ItemS K H' v d := by
  rcases h with ⟨h, h2⟩ | ⟨e, p, e2, h⟩
  · exact .inl ⟨Dp.mono s h, h2⟩
  · exact .inr ⟨e, p, e2, s _ _ h⟩
def rReprL (K : PySem.W.Frag) : List V → Hp → VK → Prop := fun xs H Q => ∃ l v d, xs = [.ref l] ∧ H l = some (.lst [v]) ∧ l ≠ sysModules ∧ ItemS K H v d ∧ Q (.str (PyData.list [d]).shown) H
section
variable {X : Cx} (K : PySem.W.Frag)
theorem call_reprL (gd : X.A.guards = some []) (hu : X.A.units + 66 < cLine) (h : X.K = K := by rfl) : CallR X (.builtin "repr") (rReprL K) := by
  subst h
  intro pins s σ H xs us Q I r h
  obtain ⟨l, v, d, rfl, hl, hne, hI, q⟩ := h
  rcases hI with ⟨hD, hS⟩ | ⟨rfl, p, rfl, hp⟩
  · refine call_reprD gd hu pins s σ H _ us Q I r ⟨.ref l, .list [d], rfl, .lst (SqL.of hl) (.cons hD .nil), ?_, q⟩
    exact (Sh.lst (ShAll.cons hS (ShAll.nil.mono (Nat.zero_le 50) (Nat.zero_le 0)))).mono (by decide) (by decide)
  · obtain ⟨u, rfl, ru⟩ := vals1 r
    obtain rfl : u = Value.ref l := ru
    obtain ⟨_, hsys, vs, kv, o, es, ep, ho, hx, hd, hk, hpr, hn⟩ := dk_of I.hok hp
    have e1 : vs = [] := by
      cases kv
      rfl
    subst e1
    have e2 : es.toList = [] := by
      generalize es.toList = l at hpr ⊢
      cases hpr
      rfl
    have rd : Reads s.heap (.ref p) (.dict []) (p :: [] ++ []) := by
      refine .dict ho hx.1 hd ?_ ?_
      · rw [e2]
        exact .nil
      · rw [e2]
        exact .nil
    obtain ⟨its, rv, ⟨ol, nl, g1, g2, g3, g4⟩, hz⟩ := I.list (SqL.of hl)
    obtain ⟨u, rfl, ru⟩ := vals1 rv
    obtain rfl : u = Value.ref p := ru
    have dep : PyData.depth (.list [.dict []]) ≤ 3 := by decide
    have rdl : Reads s.heap (.ref l) (.list [.dict []]) (l :: ((p :: [] ++ []) ++ [])) := .list g1 g2 (by first | exact g3 | exact g4) (.cons rd .nil)
    refine repr_of_reads' rdl rfl (fun _ hm => ?_) gd (by omega) (fun _ _ e => e) (fun h' u tk hk => ?_) (by decide +kernel)
    · have e3 : sysModules = l ∨ sysModules = p := by simpa using hm
      rcases e3 with e3 | e3
      · exact hne e3.symm
      · rw [← e3] at hsys
        exact absurd hsys (by simp)
    · exact ⟨.str _, H, I.kept hk, ⟨u, rfl⟩, q⟩
end
section
variable {X : Cx} (K : PySem.W.Frag)
theorem cr_allK (hc : X.calm = true := by rfl) (h : X.K = K := by rfl) : CallR X (.builtin "all") (rAll K) := h ▸ cr_all hc
end
end Ef
namespace Ef
open PySem PySem.Spec PyProof.Rows L2
/-! ### data: equal to itself, shown -/
theorem neD_same {K : PySem.W.Frag} {H : Hp} {x y : V} {d : PyData} {Q : VK} (hx : Dp K H x d) (hy : Dp K H y d) (s : Sh 60 80000 d) (q : Q (.bl false) H) : rNeD K x y H Q := by
  refine ⟨d, d, hx, hy, s.shaped (by decide), s.shaped (by decide), ?_⟩
  rw [SeqAt.eqv_refl d s.can]
  exact q
theorem eqD_same {K : PySem.W.Frag} {H : Hp} {x y : V} {d : PyData} {Q : VK} (hx : Dp K H x d) (hy : Dp K H y d) (s : Sh 60 80000 d) (q : Q (.bl true) H) : rEqD K x y H Q := by
  refine ⟨d, d, hx, hy, s.shaped (by decide), s.shaped (by decide), ?_⟩
  rw [SeqAt.eqv_refl d s.can]
  exact q
/-- numbers as data -/
def natD (ms : List Nat) : List PyData := ms.map fun (m : Nat) => PyData.int (m : Int)
theorem sh_nat {ms : List Nat} {b : Nat} (h0 : 0 < b) (h6 : b ≤ 600) (h : ∀ x ∈ ms, x < 2 ^ b) : ShAll 0 ((b + 1) * ms.length) (natD ms) := by
  have e : natD ms = (ms.map fun (m : Nat) => (m : Int)).map PyData.int := by
    unfold natD
    rw [List.map_map]
    rfl
  rw [e]
  have h1 := ShAll.ints h0 h6 (ns := ms.map fun (m : Nat) => (m : Int)) fun x hx => by
    obtain ⟨m, hm, rfl⟩ := List.mem_map.mp hx
    exact h m hm
  rw [List.length_map] at h1
  exact h1
theorem sh_list {ms : List Nat} (hl : ms.length ≤ 60) (h : ∀ x ∈ ms, x < 60) : Sh 1 500 (.tuple (natD ms)) := by
  have h1 := sh_nat (b := 6) (by decide) (by decide) (ms := ms) fun x hx => by
    have := h x hx
    omega
  exact Sh.tup (h1.mono (by decide) (by omega))
end Ef
set_option maxHeartbeats 4000000
namespace Ef
open PySem PySem.Spec PyProof.Rows L2
/-! ### x in l, l.index(x), l.count(x) where items are data -/
def rCntD (K : PySem.W.Frag) : V → List V → Hp → VK → Prop := fun x xs H Q => ∃ (a : Addr) (y : V) (d : PyData) (ds : List PyData), x = V.ref a ∧ xs = [y] ∧ Dp K H (V.ref a) (.list ds) ∧ Dp K H y d ∧
  SeqAt.shaped (.list ds) = true ∧ SeqAt.shaped d = true ∧ Q (.int (ds.countP (fun z => PyData.eqv z d) : Nat)) H
theorem mt_countD {X : Cx} (hu : X.A.units + 65 < cLine) : MtR X "list.count" (rCntD X.K) := by
  intro pins s σ H x xs v us Q I rx rxs h
  obtain ⟨a, y, d, ds, rfl, rfl, hl, hy, sl, sd, q⟩ := h
  cases rx
  cases rxs with
  | cons ry rt =>
    rename_i uy ut
    cases rt
    obtain ⟨bs, r1⟩ := Dp.reads I d y uy hy ry
    have hxs : PyData.canLayAll0 ds = true := SeqAt.canLay_of_shaped sl
    have hroom : X.A.units + 1 + min (PyData.depthAll ds) d.depth < cLine := room_in_shaped sd hu
    cases hl with
    | lst hs ha =>
      obtain ⟨its, rv, ⟨⟨cls, dd, data, sls⟩, n, ho, hc, hdn, hdt⟩, hlen⟩ := I.list hs
      simp only at hc hdt
      subst hc hdt
      obtain ⟨as, h4⟩ := Dp.readsAll I ds _ its ha rv
      have hmap : its.map (SeqAt.readOf s.heap) = ds := SeqAt.readsAll_map ds its as hxs h4
      refine call_meets PySem.F.slot_list_count ⟨_, ho, rfl⟩ PySem.F.entry_list_count (PySem.F.args_list_count_2 _ _)
        (SeqAt.list_countAt a its.toArray n dd sls uy (fun u => PyData.eqv (SeqAt.readOf s.heap u) d)) ⟨ho, SeqAt.items_eqAt (vs := its.toArray) (show ReadsAll s.heap its.toArray.toList ds as from h4) r1 hxs (SeqAt.canLay_of_shaped sd) hroom, ?_⟩
      refine ⟨.int (ds.countP (fun z => PyData.eqv z d) : Nat), H, I.tok _, ⟨s.toks, ?_⟩, q⟩
      show Value.int ((its.toArray.toList.countP (fun u => PyData.eqv (SeqAt.readOf s.heap u) d) : Nat) : Int) s.toks = _
      rw [← hmap, List.countP_map]
      rfl
theorem op_inDK {X : Cx} (K : PySem.W.Frag) (hu : X.A.units + 65 < cLine) (h : X.K = K := by rfl) : OpR X (compareOp .In) (rInD K) := h ▸ op_inD hu
theorem op_notInDK {X : Cx} (K : PySem.W.Frag) (hu : X.A.units + 65 < cLine) (h : X.K = K := by rfl) : OpR X (compareOp .NotIn) (rNotInD K) := h ▸ op_notInD hu
theorem mt_indexDK {X : Cx} (K : PySem.W.Frag) (hu : X.A.units + 65 < cLine) (h : X.K = K := by rfl) : MtR X "list.index" (rIndexD K) := h ▸ mt_indexD hu
theorem mt_countDK {X : Cx} (K : PySem.W.Frag) (hu : X.A.units + 65 < cLine) (h : X.K = K := by rfl) : MtR X "list.count" (rCntD K) := h ▸ mt_countD hu
/-- two lists of numbers, as data -/
theorem eqv_nats : ∀ (a b : List Nat), PyData.eqvAll (natD a) (natD b) = decide (a = b)
  | [], [] => by simp [natD, PyData.eqvAll]
  | [], b :: s => by simp [natD, PyData.eqvAll]
  | a :: r, [] => by simp [natD, PyData.eqvAll]
  | a :: r, b :: s => by
    have ih := eqv_nats r s
    have e : PyData.eqvAll (natD (a :: r)) (natD (b :: s)) = (((a : Int) == (b : Int)) && PyData.eqvAll (natD r) (natD s)) := by
      show PyData.eqvAll (PyData.int (a : Int) :: natD r) (PyData.int (b : Int) :: natD s) = _
      simp only [PyData.eqvAll, PyData.eqv]
    rw [e, ih]
    by_cases h1 : a = b
    · subst h1
      by_cases h2 : r = s
      · subst h2
        simp
      · simp [h2]
    · have h3 : ((a : Int) == (b : Int)) = false := beq_eq_false_iff_ne.mpr fun z => h1 (by omega)
      rw [h3]
      simp [h1]
theorem eqv_natT (a b : List Nat) : PyData.eqv (.tuple (natD a)) (.tuple (natD b)) = decide (a = b) := by
  simp only [PyData.eqv]
  exact eqv_nats a b
end Ef
set_option maxHeartbeats 4000000
namespace Ef
open PySem PySem.Spec PyProof.Rows L2
open PySem.W (dataLe AllAlike Sortable EachIs sorted_data sortLe_total TotalLe dataLt dataLt_tuple dataLt_ints)
/-! ### sorted of a list of data, any number of them -/
abbrev dLe : V × PyData → V × PyData → Bool := dataLe false (fun b : V × PyData => b.2)
def rSortD (K : PySem.W.Frag) : List V → Hp → VK → Prop := fun vs H Q => ∃ (a : Addr) (bs : List (V × PyData)), vs = [V.ref a] ∧ SqL K H a (bs.map (·.1)) ∧ (∀ b ∈ bs, Dp K H b.1 b.2) ∧ AllAlike (bs.map (·.2)) ∧ Sortable (bs.map (·.2)) ∧ (∀ b ∈ bs, b.2.depth ≤ 20) ∧
  ∀ p : Addr, H p = none → Q (.ref p) (upd H p (.lst ((bs.mergeSort dLe).map (·.1))))
theorem each_vals : ∀ {bs : List (V × PyData)} {us : List Value}, Vals (bs.map (·.1)) us → EachIs (fun u (b : V × PyData) => RelV b.1 u) us bs
  | [], _, .nil => .nil
  | _ :: _, _, .cons r t => .cons r (each_vals t)
theorem vals_each : ∀ {bs : List (V × PyData)} {us : List Value}, EachIs (fun u (b : V × PyData) => RelV b.1 u) us bs → Vals (bs.map (·.1)) us
  | [], _, .nil => .nil
  | _ :: _, _, .cons r t => .cons r (vals_each t)
section
variable {X : Cx} {K : PySem.W.Frag}
theorem each_reads {pins : List (Addr × Obj)} {σ : L2.St} {H : Hp} {s : Shared} (I : Inv X pins σ H s) : ∀ {bs : List (V × PyData)} {us : List Value}, (∀ b ∈ bs, Dp X.K H b.1 b.2) → EachIs (fun u (b : V × PyData) => RelV b.1 u) us bs → EachIs (fun u (b : V × PyData) => ∃ as, Reads s.heap u b.2 as) us bs
  | [], _, _, .nil => .nil
  | b :: _, _, h, .cons r t => .cons (Dp.reads I b.2 b.1 _ (h b List.mem_cons_self) r) (each_reads I (fun c hc => h c (List.mem_cons_of_mem _ hc)) t)
theorem cr_sortD (hu : X.A.units + 64 < cLine) (h : X.K = K := by rfl) : CallR X (.builtin "sorted") (rSortD K) := by
  subst h
  intro pins s σ H vs us Q I r hq
  obtain ⟨a, bs, rfl, hs, hd, hal, hk, hdp, q⟩ := hq
  obtain ⟨its, rv, hl, hz⟩ := I.list hs
  obtain ⟨u, rfl, ru⟩ := vals1 r
  obtain rfl : u = Value.ref a := ru
  have ee := each_vals rv
  have hz2 : bs.length ≤ sizeLine := by
    rw [List.length_map] at hz
    exact hz
  refine sorted_data (β := V × PyData) (bs := bs) (enc := fun b : V × PyData => b.2) (R := fun u (b : V × PyData) => RelV b.1 u) hl.isList ee (each_reads I hd ee) hal hk hz2 (fun b hb => by have := hdp b hb; omega) fun out hlen eo => ?_
  obtain ⟨n, hn⟩ := sortedAll_at s.heap its out.toArray
  refine ⟨.ref _, upd H (s.heap.objs.size + 1) (.lst ((bs.mergeSort dLe).map (·.1))), I.laid (t' := s.toks) (fun _ _ z => sortedAll_old z) (Nat.le_succ _) ⟨?_, out, n, vals_each eo, ?_⟩, rfl, q _ (I.hok.fresh (Nat.le_succ _))⟩
  · rw [List.length_map, List.length_mergeSort]
    exact hz2
  · simpa using hn
end
theorem sl_listK {X : Cx} {K : PySem.W.Frag} (h : X.K = K := by rfl) : SlR X (rSlL K) := h ▸ sl_list
def rDictP (K : PySem.W.Frag) : List V → Hp → VK → Prop := fun xs H Q => ∃ (a : Addr) (ps : List Addr) (kvs : List (Key × V)), xs = [.ref a] ∧ SqL K H a (ps.map V.ref) ∧ Paired (fun p kv => SqT K H p [kV kv.1, kv.2]) ps kvs ∧ ∀ p, H p = none → Q (.ref p) (upd H p (.dK (mergeK [] kvs)))
theorem call_dictPK {X : Cx} {K : PySem.W.Frag} (hc : X.calm = true) (h : X.K = K := by rfl) : CallR X (.type "dict") (rDictP K) := by
  subst h
  exact call_dictP hc
/-! the order -/
theorem dLe_ord : TotalLe dLe := sortLe_total _ false _
theorem dLe_trans (a b c : V × PyData) (h1 : dLe a b = true) (h2 : dLe b c = true) : dLe a c = true := dLe_ord.trans a b c h1 h2
theorem dLe_total (a b : V × PyData) : (dLe a b || dLe b a) = true := (Bool.or_eq_true _ _).mpr (dLe_ord.total a b)
theorem dsort_perm (bs : List (V × PyData)) : (bs.mergeSort dLe).Perm bs := List.mergeSort_perm bs dLe
theorem dsort_asc (bs : List (V × PyData)) : (bs.mergeSort dLe).Pairwise fun a b => dLe a b = true := List.pairwise_mergeSort dLe_trans dLe_total bs
theorem dsort_id {bs : List (V × PyData)} (h : bs.Pairwise fun a b => dLe a b = true) : bs.mergeSort dLe = bs := List.mergeSort_of_pairwise h
theorem dLe_lt (a b : V × PyData) : dLe a b = !dataLt b.2 a.2 := rfl
theorem dLe_ints {u v : V} {xs ys : List Int} : dLe (u, .tuple (xs.map .int)) (v, .tuple (ys.map .int)) = !decide (ys < xs) := by
  rw [dLe_lt]
  show (!dataLt (.tuple (ys.map .int)) (.tuple (xs.map .int))) = _
  rw [dataLt_tuple]
  exact congrArg (!·) (dataLt_ints ys xs)
end Ef
namespace Ef
open PySem PySem.Spec PyProof.Rows L2
/-! ### a comprehension within a comprehension -/
theorem lookup_map (c : Str → NameKind → Bool) (x : Str) : ∀ names : List (Str × NameKind), (names.lookup x = some .cell ∨ names.lookup x = some .free) → ((names.map fun (n, k) => if c n k = true then (n, NameKind.cell) else (n, k)).lookup x = some .cell ∨ (names.map fun (n, k) => if c n k = true then (n, NameKind.cell) else (n, k)).lookup x = some .free)
  | [], h => by simp at h
  | (n, k) :: r, h => by
    rw [List.map_cons]
    by_cases e : x == n
    · rw [List.lookup_cons, e] at h
      by_cases cc : c n k = true
      · simp only [cc, if_true]
        rw [List.lookup_cons, e]
        exact .inl rfl
      · simp only [cc, Bool.false_eq_true, if_false]
        rw [List.lookup_cons, e]
        exact h
    · have e2 : (x == n) = false := by simpa using e
      rw [List.lookup_cons, e2] at h
      have ih := lookup_map c x r h
      by_cases cc : c n k = true
      · simp only [cc, if_true]
        rw [List.lookup_cons, e2]
        exact ih
      · simp only [cc, Bool.false_eq_true, if_false]
        rw [List.lookup_cons, e2]
        exact ih
theorem blkOk_in {N : List Str} {sc scope : Scope} {own : List (Str × Nat)} {env : Env} (h : BlkOk N sc scope own) : BlkOk N (relabel sc env) scope own :=
  ⟨h.kind, h.uniq, h.ix, fun y hy e => lookup_map (fun n k => k == NameKind.free && env.scope.kind == .function && env.kindOf n == some .cell) y.1 sc.names (h.free y hy e), h.own⟩
end Ef
set_option maxHeartbeats 4000000
namespace Ef
open PySem PySem.Spec PyProof.Rows L2
/-! ### set(t) of a tuple of ints with its size, len(s) of a set -/
/-- c is the number of different ones among ns -/
def Diff (ns : List Int) (c : Nat) : Prop := ∃ ks : List Int, ks.Nodup ∧ (∀ k, k ∈ ks ↔ k ∈ ns) ∧ ks.length = c
theorem Diff.nodup {ns : List Int} {c : Nat} (h : Diff ns c) (hn : ns.Nodup) : c = ns.length := by
  obtain ⟨ks, h1, h2, rfl⟩ := h
  exact ((List.perm_ext_iff_of_nodup h1 hn).mpr h2).length_eq
theorem sub_len : ∀ {ks ns : List Int}, ks.Nodup → (∀ k ∈ ks, k ∈ ns) → ks.length ≤ ns.length
  | [], _, _, _ => Nat.zero_le _
  | k :: r, ns, h, hs => by
    have hk := hs k List.mem_cons_self
    have h1 := sub_len (ks := r) (ns := ns.erase k) (List.nodup_cons.mp h).2 fun x hx => (List.mem_erase_of_ne (fun e : x = k => (List.nodup_cons.mp h).1 (e ▸ hx))).mpr (hs x (List.mem_cons_of_mem _ hx))
    have h2 := List.length_erase_of_mem hk
    have h3 := List.length_pos_of_mem hk
    show r.length + 1 ≤ ns.length
    omega
theorem sub_perm : ∀ {ks ns : List Int}, ks.Nodup → (∀ k ∈ ks, k ∈ ns) → ns.length ≤ ks.length → ks.Perm ns
  | [], ns, _, _, h => by
    have : ns = [] := List.length_eq_zero_iff.mp (Nat.le_zero.mp h)
    rw [this]
  | k :: r, ns, h, hs, hl => by
    have hk := hs k List.mem_cons_self
    have h2 := List.length_erase_of_mem hk
    have hl2 : ns.length ≤ r.length + 1 := hl
    have h1 := sub_perm (ks := r) (ns := ns.erase k) (List.nodup_cons.mp h).2 (fun x hx => (List.mem_erase_of_ne (fun e : x = k => (List.nodup_cons.mp h).1 (e ▸ hx))).mpr (hs x (List.mem_cons_of_mem _ hx))) (by omega)
    exact (h1.cons k).trans (List.perm_cons_erase hk).symm
theorem Diff.le {ns : List Int} {c : Nat} (h : Diff ns c) : c ≤ ns.length := by
  obtain ⟨ks, h1, h2, rfl⟩ := h
  exact sub_len h1 fun k hk => (h2 k).mp hk
theorem Diff.not {ns : List Int} {c : Nat} (h : Diff ns c) (hn : ¬ ns.Nodup) : c ≠ ns.length := by
  intro e
  obtain ⟨ks, h1, h2, rfl⟩ := h
  have p : ks.Perm ns := sub_perm h1 (fun k hk => (h2 k).mp hk) (by omega)
  exact hn (p.nodup_iff.mp h1)
section
variable {X : Cx} {K : PySem.W.Frag} {w : World}
theorem setR_diff {h : Heap} {a : Addr} {ns : List Int} {c : Nat} (R : SetR w h a (fun j => decide (j ∈ ns)) c) : Diff ns c := by
  obtain ⟨o, es, ep, t, _, _, _, _, nd, mem, _, _, sz, _⟩ := R
  refine ⟨es.toList.map keyOf, nd, fun k => ?_, ?_⟩
  · rw [← mem k]
    exact decide_eq_true_iff
  · rw [List.length_map, Array.length_toList]
    exact sz
def rSetTn (K : PySem.W.Frag) (w : World) : List V → Hp → VK → Prop := fun xs H Q => ∃ (l : Addr) (ns : List Int), xs = [.ref l] ∧ (SqT K H l (ns.map V.int)) ∧ ns.length ≤ 1000 ∧
    ∀ (p : Addr) (c : Nat), H p = none → Diff ns c → Q (.ref p) (upd H p (SetO w p (fun j => decide (j ∈ ns)) c))
theorem cr_setTn (hc : X.calm = true) (h : X.K = K := by rfl) (hw : X.w = w := by rfl) : CallR X (.type "set") (rSetTn K w) := by
  subst h hw
  intro pins s σ H xs us Q I r h
  obtain ⟨l, ns, rfl, hq, hl, q⟩ := h
  obtain ⟨u, rfl, ru⟩ := vals1 r
  obtain rfl : u = Value.ref l := ru
  obtain ⟨its, rv, pt, hz⟩ := I.tuple hq
  refine call_set_tupI ns (I.ok.hd hc) (show s.heap.IsTuple l its.toArray from pt) (ints_of_vals rv) (by unfold scanBound; omega) fun h' tk c R1 hcn k => ?_
  exact ⟨.ref _, _, I.laid (t' := tk) k (Nat.le_refl _) (setO_new R1), rfl, q _ c (I.hok.fresh (Nat.le_refl _)) (setR_diff R1)⟩
def rLenSet (w : World) : List V → Hp → VK → Prop := fun xs H Q => ∃ (p : Addr) (S : Int → Bool) (c : Nat), xs = [.ref p] ∧ H p = some (SetO w p S c) ∧ Q (.int (c : Int)) H
theorem call_lenSet (hw : X.w = w := by rfl) : CallR X (.builtin "len") (rLenSet w) := by
  subst hw
  intro pins s σ H xs us Q I r h
  obtain ⟨p, S, c, rfl, hp, q⟩ := h
  obtain ⟨u, rfl, ru⟩ := vals1 r
  obtain rfl : u = Value.ref p := ru
  obtain ⟨o, es, ep, t, ho, hex, hd, _, _, _, sb, hf, hn, _⟩ := setO_get I hp
  have b : (es.size : Int) < 2 ^ 63 := by
    have : scanBound ≤ 2 ^ 62 := by unfold scanBound; decide
    omega
  exact call_len_set ho hex hd hf b ⟨.int c, H, I.tok _, ⟨_, by rw [hn]⟩, q⟩
end
end Ef
namespace Ef
/-! ### the lists ascend -/
abbrev intL (ms : List Nat) : List Int := ms.map fun (m : Nat) => (m : Int)
theorem lt_cons {a b : Int} {l m : List Int} : a :: l < b :: m ↔ a < b ∨ a = b ∧ l < m := List.cons_lt_cons_iff
/-- m is not before l -/
def LexLe (l m : List Nat) : Prop := ¬ intL m < intL l
theorem LexLe.cons_lt {a b : Nat} {l m : List Nat} (h : a < b) : LexLe (a :: l) (b :: m) := fun z => by
  have z2 : ((b : Int) :: intL m) < ((a : Int) :: intL l) := z
  rcases lt_cons.mp z2 with z | ⟨z, _⟩ <;> omega
theorem LexLe.cons_eq {a : Nat} {l m : List Nat} (h : LexLe l m) : LexLe (a :: l) (a :: m) := fun z => by
  have z2 : ((a : Int) :: intL m) < ((a : Int) :: intL l) := z
  rcases lt_cons.mp z2 with z | ⟨_, z⟩
  · omega
  · exact h z
theorem asc_lt {L : List Nat} (a : Asc L) {i j x y : Nat} (hi : L[i]? = some x) (hj : L[j]? = some y) (h : i < j) : x < y := by
  obtain ⟨a1, a2⟩ := List.getElem?_eq_some_iff.mp hi
  obtain ⟨b1, b2⟩ := List.getElem?_eq_some_iff.mp hj
  rw [← a2, ← b2]
  exact List.pairwise_iff_getElem.mp a i j a1 b1 h
theorem fol_asc {n c : Nat} : ∀ {ss L : List Nat} {r r' : Nat}, FolOk n c ss L r → FolOk n c ss L r' → Asc L → r ≤ r' → LexLe (fol n c ss L r).1 (fol n c ss L r').1
  | [], _, _, _, _, _, _, _ => fun z => by cases z
  | s :: ss, L, r, r', ⟨w0, h1, g1, o1⟩, ⟨_, h2, g2, o2⟩, a, h => by
    rw [fol_cons, fol_cons]
    have hd : r / wd n c s ≤ r' / wd n c s := Nat.div_le_div_right h
    by_cases e : r / wd n c s = r' / wd n c s
    · have m1 := Nat.div_add_mod r (wd n c s)
      have m2 := Nat.div_add_mod r' (wd n c s)
      rw [← e] at o2 m2 ⊢
      have hm : r % wd n c s ≤ r' % wd n c s := by omega
      exact LexLe.cons_eq (fol_asc o1 o2 (asc_erase a _) (by omega))
    · exact LexLe.cons_lt (asc_lt a (getD_of h1) (getD_of h2) (by omega))
theorem path_asc {n d c k k' : Nat} (h : Std n d c) (hk : k ≤ k') (hk' : k' < c) : LexLe (path n d c k).1 (path n d c k').1 :=
  fol_asc (path_ok h (by omega)) (path_ok h hk') (asc_range' n 0) hk
end Ef
set_option maxHeartbeats 4000000
namespace Ef
open PySem PySem.Spec PyProof.Rows L2
/-! ### dicts whose keys are tuples, nested at will -/
mutual
/-- the value is this key -/
inductive NkAt (K : PySem.W.Frag) (H : Hp) : NestedKey → V → Prop
  | num (i : Int) : NkAt K H (.num i) (.int i)
  | tup {a : Addr} {xs : List V} {ks : List NestedKey} : SqT K H a xs → NkAll K H ks xs → NkAt K H (.tup ks) (.ref a)
inductive NkAll (K : PySem.W.Frag) (H : Hp) : List NestedKey → List V → Prop
  | nil : NkAll K H [] []
  | cons {k : NestedKey} {v : V} {ks : List NestedKey} {vs : List V} : NkAt K H k v → NkAll K H ks vs → NkAll K H (k :: ks) (v :: vs)
end
mutual
theorem NkAt.mono {K : PySem.W.Frag} {H H' : Hp} (m : ∀ a xs, SqT K H a xs → SqT K H' a xs) : ∀ (k : NestedKey) (v : V), NkAt K H k v → NkAt K H' k v
  | .none, _, h => by cases h
  | .num i, _, h => by cases h; exact .num i
  | .text x, _, h => by cases h
  | .tup ks, _, h => by
    cases h with
    | tup h1 h2 => exact .tup (m _ _ h1) (NkAll.mono m ks _ h2)
theorem NkAll.mono {K : PySem.W.Frag} {H H' : Hp} (m : ∀ a xs, SqT K H a xs → SqT K H' a xs) : ∀ (ks : List NestedKey) (vs : List V), NkAll K H ks vs → NkAll K H' ks vs
  | [], _, h => by cases h; exact .nil
  | k :: ks, _, h => by
    cases h with
    | cons h1 h2 => exact .cons (NkAt.mono m k _ h1) (NkAll.mono m ks _ h2)
end
theorem NkAt.same {K : PySem.W.Frag} {H H' : Hp} {k : NestedKey} {v : V} (s : Same H H') (h : NkAt K H k v) : NkAt K H' k v := NkAt.mono (fun _ _ z => Same.seqT s z) k v h
section
variable {X : Cx} {pins : List (Addr × Obj)} {σ : L2.St} {H : Hp} {s : Shared}
mutual
theorem nk_is (I : Inv X pins σ H s) : ∀ (k : NestedKey) (v : V) (u : Value), NkAt X.K H k v → RelV v u → NestedIs s.heap k u
  | .none, _, _, h, _ => by cases h
  | .num i, _, u, h, r => by
    cases h
    obtain ⟨t, rfl⟩ := (show ∃ t, u = Value.int i t from r)
    exact .int i t
  | .text x, _, _, h, _ => by cases h
  | .tup ks, _, u, h, r => by
    cases h with
    | @tup a xs _ h1 h2 =>
      obtain rfl : u = Value.ref a := r
      obtain ⟨its, rv, ⟨o, ho, hc, n, hd⟩, _⟩ := I.tuple h1
      exact .tup ho hc hd (by simpa using nk_all I ks _ _ h2 rv)
theorem nk_all (I : Inv X pins σ H s) : ∀ (ks : List NestedKey) (vs : List V) (us : List Value), NkAll X.K H ks vs → Vals vs us → NestedAll s.heap ks us
  | [], _, _, h, r => by
    cases h
    cases r
    exact .nil
  | k :: ks, _, _, h, r => by
    cases h with
    | cons h1 h2 =>
      cases r with
      | cons r1 r2 => exact .cons (nk_is I k _ _ h1 r1) (nk_all I ks _ _ h2 r2)
end
end
abbrev DRel : List (NestedKey × Addr × V) → List (NestedKey × Addr × Value) → Prop := PySem.Paired fun p q => p.1 = q.1 ∧ p.2.1 = q.2.1 ∧ RelV p.2.2 q.2.2
abbrev KN (xs : List (NestedKey × Addr × V)) : List (NestedKey × V) := xs.map fun x => (x.1, x.2.2)
theorem DRel.val {xs : List (NestedKey × Addr × V)} {ys : List (NestedKey × Addr × Value)} (r : DRel xs ys) (k : NestedKey) : RelO (valV (KN xs) k) ((atKey ys k).map (·.2)) := by
  induction r with
  | nil => exact True.intro
  | @cons p q ps qs h t ih =>
    obtain ⟨h1, _, h2⟩ := h
    by_cases e : p.1 = k
    · have e' : q.1 = k := h1.symm.trans e
      have b : atKey (q :: qs) k = some q.2 := by simp [atKey, List.find?_cons, e']
      rw [b]
      show RelO (valV ((p.1, p.2.2) :: KN ps) k) _
      rw [valV_pos e]
      exact h2
    · have e' : ¬ q.1 = k := fun z => e (h1.trans z)
      have b : atKey (q :: qs) k = atKey qs k := by simp [atKey, List.find?_cons, e']
      rw [b]
      show RelO (valV ((p.1, p.2.2) :: KN ps) k) _
      rw [valV_neg e]
      exact ih
/-- d[k] = v over the pairs with their keys' places -/
def putN (xs : List (NestedKey × Addr × V)) (k : NestedKey) (b : Addr) (v : V) : List (NestedKey × Addr × V) :=
  if (valV (KN xs) k).isSome = true then xs.map (fun x => if x.1 = k then (x.1, x.2.1, v) else x) else xs ++ [(k, b, v)]
theorem DRel.repl {xs : List (NestedKey × Addr × V)} {ys : List (NestedKey × Addr × Value)} (r : DRel xs ys) (k : NestedKey) {y : V} {u : Value} (ry : RelV y u) :
    DRel (xs.map fun x => if x.1 = k then (x.1, x.2.1, y) else x) (ys.map (putAt k u)) := by
  induction r with
  | nil => exact .nil
  | @cons p q ps qs h t ih =>
    rw [List.map_cons, List.map_cons]
    refine .cons ?_ ih
    obtain ⟨h1, h2, h3⟩ := h
    unfold putAt
    by_cases e : p.1 = k
    · rw [if_pos e, if_pos (h1.symm.trans e)]; exact ⟨h1, h2, ry⟩
    · rw [if_neg e, if_neg (fun z => e (h1.trans z))]; exact ⟨h1, h2, h3⟩
theorem DRel.put {xs : List (NestedKey × Addr × V)} {ys : List (NestedKey × Addr × Value)} (r : DRel xs ys) (k : NestedKey) (b : Addr) {y : V} {u : Value} (ry : RelV y u) :
    DRel (putN xs k b y) (storedH ys k b u) := by
  have e : (valV (KN xs) k).isSome = (atKey ys k).isSome := by
    rw [(r.val k).isSome_eq, Option.isSome_map]
  unfold putN storedH
  rw [e]
  by_cases q : (atKey ys k).isSome = true
  · rw [if_pos q, if_pos q]; exact r.repl k ry
  · rw [if_neg q, if_neg q]; exact Paired.snoc r ⟨rfl, rfl, ry⟩
theorem KN_put (xs : List (NestedKey × Addr × V)) (k : NestedKey) (b : Addr) (v : V) : KN (putN xs k b v) = putK (KN xs) k v := by
  unfold putN putK
  rw [valV_any]
  by_cases q : (valV (KN xs) k).isSome = true
  · rw [if_pos q, if_pos q]
    unfold KN
    rw [List.map_map, List.map_map]
    refine List.map_congr_left fun x _ => ?_
    show ((if x.1 = k then (x.1, x.2.1, v) else x).1, (if x.1 = k then (x.1, x.2.1, v) else x).2.2) = if x.1 = k then (x.1, v) else (x.1, x.2.2)
    by_cases e : x.1 = k
    · rw [if_pos e, if_pos e]
    · rw [if_neg e, if_neg e]
  · rw [if_neg q, if_neg q]
    unfold KN
    rw [List.map_append]
    rfl
theorem putN_mem {xs : List (NestedKey × Addr × V)} {k : NestedKey} {b : Addr} {v : V} {x : NestedKey × Addr × V} (h : x ∈ putN xs k b v) : (∃ y ∈ xs, x.1 = y.1 ∧ x.2.1 = y.2.1) ∨ (x.1 = k ∧ x.2.1 = b) := by
  unfold putN at h
  split at h
  · obtain ⟨y, hy, rfl⟩ := List.mem_map.mp h
    refine .inl ⟨y, hy, ?_⟩
    by_cases e : y.1 = k
    · rw [if_pos e]; exact ⟨rfl, rfl⟩
    · rw [if_neg e]; exact ⟨rfl, rfl⟩
  · rcases List.mem_append.mp h with h | h
    · exact .inl ⟨x, h, rfl, rfl⟩
    · rw [List.mem_singleton.mp h]
      exact .inr ⟨rfl, rfl⟩
/-- a dict at a: its keys, where they stand, its values -/
def DN (P : Program) (w : World) (a : Addr) (xs : List (NestedKey × Addr × V)) : HO := .ext fun h => (a == sysModules) = false ∧ xs.length ≤ sizeLine ∧ ∃ ys : List (NestedKey × Addr × Value), DRel xs ys ∧
  ∃ o es ep, h.get? a = some o ∧ o.ExactDict ∧ o.data = .dict es ep ∧ es.toList = ys.map (entryOfKey (nestedKind P w)) ∧ (ys.map (·.1)).Nodup
theorem dn_ok {P : Program} {w : World} {H : Hp} {h : Heap} {a : Addr} {xs : List (NestedKey × Addr × V)} (h1 : (a == sysModules) = false) (h2 : xs.length ≤ sizeLine) {ys : List (NestedKey × Addr × Value)} (r : DRel xs ys) (d : h.DictOfH (nestedKind P w) a ys) :
    ObjOk P w H h a (DN P w a xs) := by
  obtain ⟨o, es, ep, e1, e2, e3, e4, _, e5⟩ := d
  refine ⟨⟨h1, h2, ys, r, o, es, ep, e1, e2, e3, e4, e5⟩, ⟨o, e1⟩, fun g1 g2 ⟨a1, a2, ys', a3, o', es', ep', b1, b2⟩ st => ⟨a1, a2, ys', a3, o', es', ep', st _ b1, b2⟩⟩
/-- the pairs of the dict at d -/
def DAt (P : Program) (w : World) (K : PySem.W.Frag) (H : Hp) (d : Addr) (kvs : List (NestedKey × V)) : Prop := ∃ xs, H d = some (DN P w d xs) ∧ (∀ x ∈ xs, NkAt K H x.1 (.ref x.2.1) ∧ x.1.depth ≤ 8) ∧ kvs = KN xs
theorem DAt.same {P : Program} {w : World} {K : PySem.W.Frag} {H H' : Hp} {d : Addr} {kvs : List (NestedKey × V)} (s : Same H H') (h : DAt P w K H d kvs) : DAt P w K H' d kvs := by
  obtain ⟨xs, h1, h2, h3⟩ := h
  exact ⟨xs, s _ _ h1, fun x hx => ⟨(h2 x hx).1.same s, (h2 x hx).2⟩, h3⟩
theorem SqT_updE {K : PySem.W.Frag} {H : Hp} {a D : Addr} {xs : List V} {φ : Heap → Prop} {o : HO} (h : SqT K H a xs) (hD : H D = some (.ext φ)) : SqT K (upd H D o) a xs := by
  rcases h with (h | ⟨o, h⟩) | h
  · exact .inl (.inl (by rw [upd_ne (fun c => by rw [c, hD] at h; cases h)]; exact h))
  · exact .inl (.inr ⟨o, by rw [upd_ne (fun c => by rw [c, hD] at h; cases h)]; exact h⟩)
  · exact .inr h
theorem DAt.ext {P : Program} {w : World} {K : PySem.W.Frag} {H : Hp} {d : Addr} {kvs : List (NestedKey × V)} (h : DAt P w K H d kvs) : ∃ φ, H d = some (.ext φ) := by
  obtain ⟨xs, h1, _⟩ := h
  exact ⟨_, h1⟩
/-- a list is changed -/
theorem DAt.updL {P : Program} {w : World} {K : PySem.W.Frag} {H : Hp} {d D : Addr} {kvs : List (NestedKey × V)} {ys : List V} {o : HO} (h : DAt P w K H d kvs) (hD : H D = some (.lst ys)) : DAt P w K (upd H D o) d kvs := by
  obtain ⟨xs, h1, h2, h3⟩ := h
  refine ⟨xs, by rw [upd_ne (fun c => by rw [c, hD] at h1; cases h1)]; exact h1, fun x hx => ⟨NkAt.mono (fun a zs h => ?_) _ _ (h2 x hx).1, (h2 x hx).2⟩, h3⟩
  rcases h with (h | ⟨o, h⟩) | h
  · exact .inl (.inl (by rw [upd_ne (fun c => by rw [c, hD] at h; cases h)]; exact h))
  · exact .inl (.inr ⟨o, by rw [upd_ne (fun c => by rw [c, hD] at h; cases h)]; exact h⟩)
  · exact .inr h
section
variable {X : Cx} {pins : List (Addr × Obj)} {σ : L2.St} {H : Hp} {s : Shared}
theorem dat_of {a : Addr} {xs : List (NestedKey × Addr × V)} (I : Inv X pins σ H s) (e : H a = some (DN X.prog X.w a xs)) (hk : ∀ x ∈ xs, NkAt X.K H x.1 (.ref x.2.1) ∧ x.1.depth ≤ 8) :
    (a == sysModules) = false ∧ xs.length ≤ sizeLine ∧ ∃ ys, DRel xs ys ∧ s.heap.DictOfH (nestedKind X.prog X.w) a ys := by
  obtain ⟨h1, h2, ys, r, o, es, ep, e1, e2, e3, e4, e5⟩ := (I.hok a _ e).1
  refine ⟨h1, h2, ys, r, o, es, ep, e1, e2, e3, e4, ?_, e5⟩
  clear h2 e4 e5 e
  induction r with
  | nil => intro x hx; exact absurd hx List.not_mem_nil
  | @cons p q ps qs h t ih =>
    intro x hx
    rcases List.mem_cons.mp hx with rfl | hx
    · obtain ⟨z1, z2⟩ := hk p List.mem_cons_self
      rw [← h.1, ← h.2.1]
      exact ⟨nk_is I _ _ _ z1 rfl, z2⟩
    · exact ih (fun y hy => hk y (List.mem_cons_of_mem _ hy)) x hx
theorem nroom {A : Around} {P : Program} {w : World} (hu : A.units + 9 < cLine) : (nestedKind P w).room A.in1 := by
  show A.in1.units + 8 < cLine
  rw [Around.in1_units]
  omega
end
/-! the rules -/
def tDNewN (P : Program) (w : World) : TE := fun _ H Q => ∀ p, H p = none → Q (.ref p) (upd H p (DN P w p []))
def rGetDN (P : Program) (w : World) (K : PySem.W.Frag) : V → List V → Hp → VK → Prop := fun x args H Q => ∃ (d b : Addr) (z : V) (kvs : List (NestedKey × V)) (k : NestedKey), x = .ref d ∧ args = [.ref b, z] ∧ DAt P w K H d kvs ∧ NkAt K H k (.ref b) ∧ k.depth ≤ 8 ∧ Q ((valV kvs k).getD z) H
def rSetDN (P : Program) (w : World) (K : PySem.W.Frag) : V → V → V → Hp → (Hp → Prop) → Prop := fun o i v H Q => ∃ (d b : Addr) (kvs : List (NestedKey × V)) (k : NestedKey), o = .ref d ∧ i = .ref b ∧ DAt P w K H d kvs ∧ NkAt K H k (.ref b) ∧ k.depth ≤ 8 ∧ kvs.length < sizeLine ∧
  ∀ u, DAt P w K (upd H d u) d (putK kvs k v) → Q (upd H d u)
def rIxDN (P : Program) (w : World) (K : PySem.W.Frag) : R2 := fun x y H Q => ∃ (d b : Addr) (kvs : List (NestedKey × V)) (k : NestedKey) (v : V), x = .ref d ∧ y = .ref b ∧ DAt P w K H d kvs ∧ NkAt K H k (.ref b) ∧ k.depth ≤ 8 ∧ valV kvs k = some v ∧ Q v H
def tBMN (P : Program) (w : World) (r : V → List V → Hp → VK → Prop) (to : TE) (t : TA) : TE := fun σ H Q => to σ H fun x H1 => (∃ a xs, x = .ref a ∧ H1 a = some (DN P w a xs)) ∧ t σ H1 fun xs H2 => r x xs H2 Q
section
variable {X : Cx} {P : Program} {w : World} {K : PySem.W.Frag} {pos : Pos}
theorem pe_dnewN (hp : X.prog = P := by rfl) (hw : X.w = w := by rfl) : PE X (.Dict [] [] pos) (tDNewN P w) := by
  subst hp hw
  exact ⟨fun pins s σ H Q I h => wpAny_Dict_empty ⟨.ref s.heap.objs.size, _, I.laid (a := s.heap.objs.size) (o := DN X.prog X.w s.heap.objs.size []) (t' := s.toks) (fun _ _ q => Heap.get?_push_of_some _ q) (Nat.le_refl _)
    (dn_ok (beq_eq_false_iff_ne.mpr (Ne.symm (Nat.ne_of_lt I.big))) (Nat.zero_le _) .nil (Heap.DictOfH.new s.heap)), rfl, h _ (I.hok.fresh (Nat.le_refl _))⟩⟩
theorem mt_getDN (K : PySem.W.Frag) (hu : X.A.units + 9 < cLine) (hp : X.prog = P := by rfl) (hw : X.w = w := by rfl) (hk : X.K = K := by rfl) : MtR X "dict.get" (rGetDN P w K) := by
  subst hp hw hk
  intro pins s σ H x args v us Q I rx ra h
  obtain ⟨d, b, z, kvs, k, rfl, rfl, ⟨xs, e, hx, rfl⟩, hb, hd8, q⟩ := h
  obtain rfl : v = Value.ref d := rx
  cases ra with
  | cons r1 r2 =>
    cases r2 with
    | cons r2 r3 =>
      cases r3
      rename_i u1 u2
      obtain rfl : u1 = Value.ref b := r1
      obtain ⟨h1, h2, ys, r, dd⟩ := dat_of I e hx
      refine call_meetsIn PySem.F.slot_dict_get dd.typeIs PySem.F.entry_dict_get (PySem.F.args_dict_get_3 _ _ _) (meetsH_dict_get_default (nestedKind X.prog X.w) d b h1 u2) ⟨nroom hu, k, ys, ⟨nk_is I k _ _ hb rfl, hd8⟩, dd, _, H, I.tok _, (r.val k).getD r2, q⟩
theorem set_dN (K : PySem.W.Frag) (hu : X.A.units + 9 < cLine) (hp : X.prog = P := by rfl) (hw : X.w = w := by rfl) (hk : X.K = K := by rfl) : PSet X (rSetDN P w K) := by
  subst hp hw hk
  intro pins s σ H o i v ov iv u Q I ro ri rv h
  obtain ⟨d, b, kvs, k, rfl, rfl, ⟨xs, e, hx, rfl⟩, hb, hd8, hl, q⟩ := h
  obtain rfl : ov = Value.ref d := ro
  obtain rfl : iv = Value.ref b := ri
  obtain ⟨h1, h2, ys, r, dd⟩ := dat_of I e hx
  have hz : ys.length ≤ sizeLine := by rw [← Paired.length r]; exact h2
  refine wpAny_setItem_heap (hsz := hz) (nroom hu) (show (nestedKind X.prog X.w).is s.heap k b from ⟨nk_is I k _ _ hb rfl, hd8⟩) dd fun h' dd' hs => ?_
  have hl2 : (putN xs k b v).length ≤ sizeLine := by
    have l1 := length_putK (KN xs) k v
    rw [← KN_put xs k b v] at l1
    unfold KN at l1 hl
    rw [List.length_map, List.length_map] at l1
    rw [List.length_map] at hl
    omega
  have he : ∃ q, h'.get? d = some q := let ⟨q, _, _, hq, _⟩ := dd'; ⟨q, hq⟩
  refine ⟨upd H d (DN X.prog X.w d (putN xs k b v)), d_write I (by rw [e]; exact True.intro) hs he (dn_ok h1 hl2 (r.put k b rv) dd'), q _ ⟨putN xs k b v, upd_same, fun x hx2 => ?_, (KN_put xs k b v).symm⟩⟩
  have mo : ∀ a zs, SqT X.K H a zs → SqT X.K (upd H d (DN X.prog X.w d (putN xs k b v))) a zs := fun a zs h => SqT_updE h e
  rcases putN_mem hx2 with ⟨y, hy, e1, e2⟩ | ⟨e1, e2⟩
  · rw [e1, e2]
    exact ⟨NkAt.mono mo _ _ (hx y hy).1, (hx y hy).2⟩
  · rw [e1, e2]
    exact ⟨NkAt.mono mo _ _ hb, hd8⟩
theorem ix_dN (K : PySem.W.Frag) (hu : X.A.units + 9 < cLine) (hp : X.prog = P := by rfl) (hw : X.w = w := by rfl) (hk : X.K = K := by rfl) : IxR X (rIxDN P w K) := by
  subst hp hw hk
  intro value slice pins s σ H x y v u Q I rx ry h hs
  obtain ⟨d, b, kvs, k, z, rfl, rfl, ⟨xs, e, hx, rfl⟩, hb, hd8, hv, q⟩ := h
  obtain rfl : v = Value.ref d := rx
  obtain rfl : u = Value.ref b := ry
  obtain ⟨h1, h2, ys, r, dd⟩ := dat_of I e hx
  obtain ⟨w', hw, rw'⟩ := RelO.some_of (v := z) (o := (atKey ys k).map (·.2)) (by rw [← hv]; exact r.val k)
  obtain ⟨p, hp, hp2⟩ := Option.map_eq_some_iff.mp hw
  refine tail_any (ops := [.ref d, .ref b]) dd.typeIs PySem.F.slot_dict_getitem.lookup ?_ hs
  refine wpAny_getItem_heap (nroom hu) (show (nestedKind X.prog X.w).is s.heap k b from ⟨nk_is I k _ _ hb rfl, hd8⟩) dd hp ?_
  rw [hp2]
  exact ⟨z, H, I.tok _, rw', q⟩
theorem pe_bmN {name : Str} {id : String} {r : V → List V → Hp → VK → Prop} {o e : Expr} {es : List Expr} {to : TE} {t : TA} {apos cpos : Pos} (slot : Slot "dict" name id) (hty : typeOf (.builtin id) = pure (.type "method_descriptor")) (hm : MtR X id r) (ho : PE X o to) (ha : PA X (e :: es) t)
    (hp : X.prog = P := by rfl) (hw : X.w = w := by rfl)
    (hbase : attributeBase o name X.env (eval o X.env) = eval o X.env := by rfl)
    (hfew : ((backTo cpos (starEach (e :: es) X.env)).all (fun x => !x.1) && (backToKw cpos (keywordEach [] X.env)).all (fun x => x.1.isSome)
      && decide ((e :: es).length + ([] : List Keyword).length + (if ([] : List Keyword).isEmpty then 0 else 1) < 30)) = true := by rfl)
    (hline : (apos.endLine == cpos.line) = true := by rfl) (hs : starEach (e :: es) X.env = (false, eval e X.env) :: starEach es X.env := by rfl) (hplain : (backTo cpos (starEach es X.env)).any (·.1) = false := by rfl) :
    PE X (.Call (.Attribute o name apos) (e :: es) [] cpos) (tBMN P w r to t) := by
  subst hp hw
  refine ⟨fun pins s σ H Q I h => ?_⟩
  refine wpAny_Call_method_late hbase hfew hline rfl (thn (ho.run pins s σ H _ I h) fun v s1 ⟨x, H1, I1, r1, ⟨a, xs, ex, ea⟩, q1⟩ => ?_)
  subst ex
  obtain rfl : v = Value.ref a := r1
  obtain ⟨_, _, ys, _, oo, _, _, e1, e2, _⟩ := (I1.hok a _ ea).1
  refine ⟨"dict", id, PySem.F.plainAttrs_dict, slot, hty, ⟨oo, e1, e2.1⟩, fun b q => ?_, ?_⟩
  · cases q
    exact ⟨oo, e1, e2.2.1⟩
  have hA := ha.run cpos pins s1 σ H1 _ I1 q1
  rw [hs] at hA ⊢
  refine Calls.callWith_builtin (by show (false || (backTo cpos (starEach es X.env)).any (·.1)) = false; rw [hplain] <;> rfl) (Calls.evalArgs_plain ?_)
  exact thn hA fun us s2 ⟨vs, H2, I2, r2, q2⟩ => hm pins s2 σ H2 (.ref a) vs (.ref a) us Q I2 rfl r2 q2
end
/-! counting -/
def cntV : Option V → Int
  | some (.int i) => i
  | _ => 0
def tallyN (ks : List NestedKey) : List (NestedKey × V) := ks.foldl (fun acc k => putK acc k (.int (cntV (valV acc k) + 1))) []
theorem tally_snoc (ks : List NestedKey) (k : NestedKey) : tallyN (ks ++ [k]) = putK (tallyN ks) k (.int (cntV (valV (tallyN ks) k) + 1)) := by
  unfold tallyN
  rw [List.foldl_append]
  rfl
theorem tally_val : ∀ (n : Nat) (ks : List NestedKey), ks.length = n → ∀ k, valV (tallyN ks) k = if ks.count k = 0 then none else some (.int (ks.count k : Nat))
  | 0, ks, h, k => by
    rw [List.length_eq_zero_iff.mp h]
    rfl
  | n + 1, ks, h, k => by
    obtain ⟨l, x, rfl⟩ : ∃ l x, ks = l ++ [x] := ⟨ks.dropLast, ks.getLast (fun e => by rw [e] at h; cases h), (List.dropLast_concat_getLast _).symm⟩
    have hl : l.length = n := by
      rw [List.length_append] at h
      have : [x].length = 1 := rfl
      omega
    have ih := tally_val n l hl
    rw [tally_snoc]
    have ec : (l ++ [x]).count k = l.count k + if x = k then 1 else 0 := by
      rw [List.count_append, List.count_singleton]
      by_cases e : x = k
      · rw [if_pos e, if_pos (beq_iff_eq.mpr e)]
      · rw [if_neg e, if_neg (fun z => e (beq_iff_eq.mp z))]
    rw [valV_put]
    by_cases e : x = k
    · subst e
      rw [if_pos rfl, ec, if_pos rfl, if_neg (by omega), ih x]
      by_cases c : l.count x = 0
      · rw [if_pos c, c]
        rfl
      · rw [if_neg c]
        rfl
    · rw [if_neg (fun z => e z.symm), ec, if_neg e, Nat.add_zero]
      exact ih k
end Ef
set_option maxHeartbeats 4000000
namespace Ef
open PySem PySem.Spec PyProof.Rows L2
open PySem.W (dataLe AllAlike Sortable EachIs list_sort_data)
/-! ### such a dict, sorted; its values; its size -/
mutual
theorem nk_dp {K : PySem.W.Frag} {H : Hp} : ∀ (k : NestedKey) (v : V), NkAt K H k v → Dp K H v k.data
  | .none, _, h => by cases h
  | .num i, _, h => by
    cases h
    exact .int i
  | .text x, _, h => by cases h
  | .tup ks, _, h => by
    cases h with
    | tup h1 h2 => exact .tup h1 (nk_dpAll ks _ h2)
theorem nk_dpAll {K : PySem.W.Frag} {H : Hp} : ∀ (ks : List NestedKey) (vs : List V), NkAll K H ks vs → DpAll K H vs (NestedKey.datas ks)
  | [], _, h => by
    cases h
    exact .nil
  | k :: ks, _, h => by
    cases h with
    | cons h1 h2 => exact .cons (nk_dp k _ h1) (nk_dpAll ks _ h2)
end
section
variable {X : Cx} {pins : List (Addr × Obj)} {σ : L2.St} {H : Hp} {s : Shared}
mutual
theorem nk_reads (I : Inv X pins σ H s) : ∀ (k : NestedKey) (v : V) (u : Value), NkAt X.K H k v → RelV v u → Reads s.heap u k.data []
  | .none, _, _, h, _ => by cases h
  | .num i, _, u, h, r => by
    cases h
    obtain ⟨t, rfl⟩ := (show ∃ t, u = Value.int i t from r)
    exact .int i t
  | .text x, _, _, h, _ => by cases h
  | .tup ks, _, u, h, r => by
    cases h with
    | @tup a xs _ h1 h2 =>
      obtain rfl : u = Value.ref a := r
      obtain ⟨its, rv, ⟨o, ho, hc, n, hd⟩, _⟩ := I.tuple h1
      exact .tuple ho hc hd (by simpa using nk_readsAll I ks _ _ h2 rv)
theorem nk_readsAll (I : Inv X pins σ H s) : ∀ (ks : List NestedKey) (vs : List V) (us : List Value), NkAll X.K H ks vs → Vals vs us → ReadsAll s.heap us (NestedKey.datas ks) []
  | [], _, _, h, r => by
    cases h
    cases r
    exact .nil
  | k :: ks, _, _, h, r => by
    cases h with
    | cons h1 h2 =>
      cases r with
      | cons r1 r2 => exact .cons (nk_reads I k _ _ h1 r1) (nk_readsAll I ks _ _ h2 r2)
end
end
def nLe : NestedKey → NestedKey → Bool := dataLe false NestedKey.data
def rSortN (P : Program) (w : World) (K : PySem.W.Frag) : List V → Hp → VK → Prop := fun vs H Q => ∃ (d : Addr) (kvs : List (NestedKey × V)), vs = [V.ref d] ∧ DAt P w K H d kvs ∧ AllAlike ((kvs.map (·.1)).map NestedKey.data) ∧ Sortable ((kvs.map (·.1)).map NestedKey.data) ∧ (∀ k ∈ kvs.map (·.1), k.data.depth ≤ 20) ∧
  ∀ p us, H p = none → PySem.Paired (fun v k => NkAt K H k v) us ((kvs.map (·.1)).mergeSort nLe) → Q (.ref p) (upd H p (.lst us))
theorem drel_keys {acc : List Value} {xs : List (NestedKey × Addr × V)} {ys : List (NestedKey × Addr × Value)} (r : DRel xs ys) : ys.map (fun y => Value.ref y.2.1) = xs.map fun x => Value.ref x.2.1 := by
  induction r with
  | nil => rfl
  | cons h _ ih => rw [List.map_cons, List.map_cons, ih, h.2.1]
theorem each_refs {xs : List (NestedKey × Addr × V)} : EachIs (fun u (b : NestedKey × V) => RelV b.2 u) (xs.map fun x => Value.ref x.2.1) (xs.map fun x => (x.1, V.ref x.2.1)) := by
  induction xs with
  | nil => exact .nil
  | cons x r ih => exact .cons rfl ih
theorem each_read {X : Cx} {pins : List (Addr × Obj)} {σ : L2.St} {H : Hp} {s : Shared} {a : Addr} (I : Inv X pins σ H s) : ∀ {xs : List (NestedKey × Addr × V)}, (∀ x ∈ xs, NkAt X.K H x.1 (.ref x.2.1) ∧ x.1.depth ≤ 8) →
    EachIs (fun v (b : NestedKey × V) => ∃ as, Reads s.heap v b.1.data as ∧ a ∉ as) (xs.map fun x => Value.ref x.2.1) (xs.map fun x => (x.1, V.ref x.2.1))
  | [], _ => .nil
  | x :: xs, h => .cons ⟨[], nk_reads I _ _ _ (h x List.mem_cons_self).1 rfl, List.not_mem_nil⟩ (each_read I fun y hy => h y (List.mem_cons_of_mem _ hy))
theorem each_paired {bs : List (NestedKey × V)} {out : List Value} (e : EachIs (fun u (b : NestedKey × V) => RelV b.2 u) out bs) : Vals (bs.map (·.2)) out := by
  induction e with
  | nil => exact .nil
  | cons h _ ih => exact .cons h ih
theorem nk_paired {K : PySem.W.Frag} {H : Hp} : ∀ {bs : List (NestedKey × V)}, (∀ b ∈ bs, NkAt K H b.1 b.2) → PySem.Paired (fun v k => NkAt K H k v) (bs.map (·.2)) (bs.map (·.1))
  | [], _ => .nil
  | b :: r, h => .cons (h b List.mem_cons_self) (nk_paired fun c hc => h c (List.mem_cons_of_mem _ hc))
theorem keys_acc {P : Program} {w : World} {es : Array DictEntry} {ys : List (NestedKey × Addr × Value)} {acc : Array Value} (e4 : es.toList = ys.map (entryOfKey (nestedKind P w))) (h1 : acc.size = es.size) (h2 : ∀ (i : Nat) (v : Value), acc[i]? = some v → ∃ en : DictEntry, es[i]? = some en ∧ v = en.key) :
    acc.toList = ys.map fun x => Value.ref x.2.1 := by
  have l1 : es.size = ys.length := size_of_entries e4
  have hl : acc.toList.length = ys.length := by rw [Array.length_toList, h1]; exact l1
  apply List.ext_getElem?
  intro j
  rw [List.getElem?_map]
  cases hj : acc.toList[j]? with
  | none =>
    have h1 := List.getElem?_eq_none_iff.mp hj
    rw [List.getElem?_eq_none (by omega)]
    all_goals rfl
  | some v =>
    obtain ⟨en, hen, hv⟩ := h2 j v (by rw [← Array.getElem?_toList]; exact hj)
    have qe := entry_at e4 j
    rw [hen] at qe
    cases hb : ys[j]? with
    | none =>
      rw [hb] at qe
      exact nomatch (show some en = none from qe)
    | some b =>
      rw [hb] at qe
      have e2 : en = entryOfKey (nestedKind P w) b := Option.some.inj qe
      rw [hv, e2]
      all_goals rfl
section
variable {X : Cx} {P : Program} {w : World} {K : PySem.W.Frag}
theorem cr_sortN (K : PySem.W.Frag) (hc : X.calm = true) (hu : X.A.units + 64 < cLine) (hp : X.prog = P := by rfl) (hw : X.w = w := by rfl) (hk : X.K = K := by rfl) : CallR X (.builtin "sorted") (rSortN P w K) := by
  subst hp hw hk
  intro pins s σ H vs us Q I r hq
  obtain ⟨d, kvs, rfl, ⟨xs, e, hx, rfl⟩, hal, hso, hdp, q⟩ := hq
  obtain ⟨u, rfl, ru⟩ := vals1 r
  obtain rfl : u = Value.ref d := ru
  obtain ⟨h1, h2, ys, rel, o, es, ep, e1, e2, e3, e4, e5⟩ := (I.hok d _ e).1
  have l1 : es.size = ys.length := size_of_entries e4
  have l2 : xs.length = ys.length := PySem.Paired.length rel
  have ek : (KN xs).map (·.1) = (xs.map fun x => (x.1, V.ref x.2.1)).map (·.1) := by
    rw [List.map_map, List.map_map]
    rfl
  rw [ek] at hal hso hdp q
  refine Calls.call_function_entry PyProof.Rows.kind_sorted PyProof.Rows.plain_sorted PyProof.Rows.entry_sorted (PyProof.Rows.args_sorted1 _) ?_
  unfold Builtin.«sorted»
  refine wpAny_bind (m := checkCount "sorted" 1 1 _) (wpAny_pure ?_)
  refine wpAny_bind (PySem.W.kdu_collect (A := X.A.in1) (kdl_raw h1 e2 e3) (I.ok.hd hc) e1 (by omega) fun h' tk acc hk' hacc => ?_)
  have ea := (keys_acc e4 hacc.1 hacc.2).trans (drel_keys (acc := []) rel)
  have I1 : Inv X pins σ H { s with heap := h', toks := tk } := I.kept hk'
  rw [ea]
  refine wpAny_bind (wpAny_newList ?_ (by rw [List.length_map]; omega))
  have hoL : (h'.push (seqObj "list" (xs.map fun x => Value.ref x.2.1).toArray 0)).get? h'.objs.size = some (seqObj "list" (xs.map fun x => Value.ref x.2.1).toArray 0) := Heap.get?_push_size _ rfl
  show wpAny _ _ _ _ _ { s with heap := h'.push (seqObj "list" (xs.map fun x => Value.ref x.2.1).toArray 0), toks := tk }
  have I2 : Inv X pins σ H { s with heap := h'.push (seqObj "list" (xs.map fun x => Value.ref x.2.1).toArray 0), toks := tk } := I1.kept (t' := tk) fun b u e => Heap.get?_push_of_some _ e
  refine wpAny_bind (wpAny_holding (list_sort_data (s := { s with heap := h'.push (seqObj "list" (xs.map fun x => Value.ref x.2.1).toArray 0), toks := tk }) (β := NestedKey × V) (bs := xs.map fun x => (x.1, V.ref x.2.1)) (enc := fun b : NestedKey × V => b.1.data) (R := fun u (b : NestedKey × V) => RelV b.2 u) hoL each_refs (each_read I2 hx)
    (by rw [List.map_map] at hal; exact hal) (by rw [List.map_map] at hso; exact hso) (by rw [List.length_map]; omega) (fun b hb => ?_) fun out hout eo => ?_))
  · have hb2 : b.1 ∈ (xs.map fun x => (x.1, V.ref x.2.1)).map (·.1) := List.mem_map.mpr ⟨b, hb, rfl⟩
    have := hdp _ hb2
    show X.A.in1.units + 1 + _ < _
    rw [Around.in1_units]
    omega
  · obtain ⟨e', he'⟩ := PyProof.Rows.sortedHeap_at (vs := xs.map fun x => Value.ref x.2.1) (out := out.toArray) hoL
    have hv := each_paired eo
    have hlen : (((xs.map fun x => (x.1, V.ref x.2.1)).mergeSort (dataLe false fun b : NestedKey × V => b.1.data)).map (·.2)).length ≤ sizeLine := by
      rw [List.length_map, List.length_mergeSort, List.length_map]
      omega
    refine wpAny_pure ⟨_, rfl, .ref h'.objs.size, upd H h'.objs.size (.lst (((xs.map fun x => (x.1, V.ref x.2.1)).mergeSort (dataLe false fun b : NestedKey × V => b.1.data)).map (·.2))), I1.laid (t' := tk) (fun b u e => ?_) (Nat.le_refl _)
      (show ObjOk X.prog X.w _ _ _ (.lst _) from ⟨hlen, out, e', hv, he'⟩), rfl, q _ _ (I1.hok.fresh (Nat.le_refl _)) ?_⟩
    · have hb : b < h'.objs.size := Heap.lt_size e
      rw [PyProof.Rows.sortedHeap_old (Nat.ne_of_lt hb) (by rw [size_push']; exact Nat.lt_succ_of_lt hb)]
      exact Heap.get?_push_of_some _ e
    · have em : ((xs.map fun x => (x.1, V.ref x.2.1)).mergeSort (dataLe false fun b : NestedKey × V => b.1.data)).map (·.1) = ((xs.map fun x => (x.1, V.ref x.2.1)).map (·.1)).mergeSort nLe := List.map_mergeSort fun a _ b _ => rfl
      rw [← em]
      have all : ∀ b ∈ (xs.map fun x => (x.1, V.ref x.2.1)).mergeSort (dataLe false fun b : NestedKey × V => b.1.data), NkAt X.K H b.1 b.2 := fun b hb => by
        obtain ⟨x, hx2, rfl⟩ := List.mem_map.mp ((List.mergeSort_perm _ _).mem_iff.mp hb)
        exact (hx x hx2).1
      exact nk_paired all
/-- len(d) -/
def rLenN (P : Program) (w : World) (K : PySem.W.Frag) : List V → Hp → VK → Prop := fun vs H Q => ∃ (d : Addr) (kvs : List (NestedKey × V)), vs = [V.ref d] ∧ DAt P w K H d kvs ∧ Q (.int (kvs.length : Nat)) H
theorem call_lenN (K : PySem.W.Frag) (hp : X.prog = P := by rfl) (hw : X.w = w := by rfl) (hk : X.K = K := by rfl) : CallR X (.builtin "len") (rLenN P w K) := by
  subst hp hw hk
  intro pins s σ H vs us Q I r hq
  obtain ⟨d, kvs, rfl, ⟨xs, e, hx, rfl⟩, q⟩ := hq
  obtain ⟨u, rfl, ru⟩ := vals1 r
  obtain rfl : u = Value.ref d := ru
  obtain ⟨h1, h2, ys, rel, dd⟩ := dat_of I e hx
  have l2 : xs.length = ys.length := PySem.Paired.length rel
  refine call_len_dictH h1 dd (by rw [sizeLine_eq] at h2; omega) ?_
  refine ⟨.int ((KN xs).length : Nat), H, I.tok _, ⟨s.toks + 1, ?_⟩, q⟩
  unfold KN
  rw [List.length_map, l2]
/-- d.values() -/
def tValsN (P : Program) (w : World) (to : TE) : TE := fun σ H Q => to σ H fun x H1 => ∃ a xs, x = .ref a ∧ H1 a = some (DN P w a xs) ∧ ∀ p, H1 p = none → Q (.ref p) (upd H1 p (viewO "dict_values" p a))
theorem pe_valsN {o : Expr} {to : TE} {apos cpos : Pos} (ho : PE X o to) (hp : X.prog = P := by rfl) (hw : X.w = w := by rfl) (hbase : attributeBase o "values" X.env (eval o X.env) = eval o X.env := by rfl) (hline : (apos.endLine == cpos.line) = true := by rfl) :
    PE X (.Call (.Attribute o "values" apos) [] [] cpos) (tValsN P w to) := by
  subst hp hw
  refine ⟨fun pins s σ H Q I h => ?_⟩
  refine wpAny_Call_method0_late hbase hline (thn (ho.run pins s σ H _ I h) fun v s1 ⟨x, H1, I1, r1, a, xs, ex, ea, q1⟩ => ?_)
  subst ex
  obtain rfl : v = Value.ref a := r1
  obtain ⟨h1, _, ys, _, oo, es, ep, e1, e2, e3, _⟩ := (I1.hok a _ ea).1
  refine ⟨"dict", "dict.values", PySem.F.plainAttrs_dict, PySem.F.slot_dict_values, PySem.F.type_dict_values, ⟨oo, e1, e2.1⟩, fun b q => ?_, Calls.callWith_builtin rfl (PySem.evalArgs_none ?_)⟩
  · cases q
    exact ⟨oo, e1, e2.2.1⟩
  refine call_meetsIn PySem.F.slot_dict_values ⟨oo, e1, e2.1⟩ PySem.F.entry_dict_values (PySem.F.args_dict_values_1 _) (meets_dict_values_raw a h1) ⟨⟨es, ep, oo, e1, e2, e3⟩, ?_⟩
  exact ⟨.ref s1.heap.objs.size, _, I1.laid (t' := s1.toks) (fun b o q => Heap.get?_push_of_some _ q) (Nat.le_refl _) (viewO_ok (Heap.get?_push_size _ rfl)), rfl, q1 _ (I1.hok.fresh (Nat.le_refl _))⟩
/-- the values as entries -/
theorem vals_ent {es : Array DictEntry} {ys : List (NestedKey × Addr × Value)} {xs : List (NestedKey × Addr × V)} {ns : List Int} (e4 : es.toList = ys.map (entryOfKey (nestedKind P w))) (rel : DRel xs ys) (hns : (KN xs).map (·.2) = ns.map V.int) : es.size = ns.length ∧ ∀ (i : Nat) (e : DictEntry), es[i]? = some e → ∃ t, e.val = .int (ns.getD i 0) t := by
  have l1 : es.size = ys.length := size_of_entries e4
  have l2 : xs.length = ys.length := PySem.Paired.length rel
  have l3 : xs.length = ns.length := by
    have e := congrArg List.length hns
    rw [List.length_map, List.length_map, List.length_map] at e
    exact e
  refine ⟨by omega, fun i e he => ?_⟩
  have qe := entry_at e4 i
  rw [he] at qe
  cases hb : ys[i]? with
  | none =>
    rw [hb] at qe
    exact nomatch (show some e = none from qe)
  | some b =>
    rw [hb] at qe
    have e2 : e = entryOfKey (nestedKind P w) b := Option.some.inj qe
    have hi : i < ys.length := (List.getElem?_eq_some_iff.mp hb).1
    have hx : xs[i]? = some xs[i] := List.getElem?_eq_getElem (by omega)
    rcases paired_at rel i with ⟨z, _⟩ | ⟨x, y, z1, z2, z3⟩
    · rw [hx] at z
      cases z
    · rw [hb] at z2
      obtain rfl := Option.some.inj z2
      have z4 : ((KN xs).map (·.2))[i]? = some x.2.2 := by
        unfold KN
        rw [List.map_map, List.getElem?_map, z1]
        rfl
      rw [hns, List.getElem?_map] at z4
      obtain ⟨j, hj, ej⟩ := Option.map_eq_some_iff.mp z4
      have r3 := z3.2.2
      rw [← ej] at r3
      obtain ⟨t, et⟩ := (show ∃ t, b.2.2 = Value.int j t from r3)
      refine ⟨t, ?_⟩
      rw [e2]
      show b.2.2 = _
      rw [et, List.getD_eq_getElem?_getD, hj]
      rfl
def rMaxN (P : Program) (w : World) (K : PySem.W.Frag) : List V → Hp → VK → Prop := fun xs H Q => ∃ (p a : Addr) (kvs : List (NestedKey × V)) (ns : List Int), xs = [.ref p] ∧ H p = some (viewO "dict_values" p a) ∧ DAt P w K H a kvs ∧ kvs.map (·.2) = ns.map V.int ∧ 0 < ns.length ∧ ∀ m, m ∈ ns → (∀ y, y ∈ ns → y ≤ m) → Q (.int m) H
def rMinN (P : Program) (w : World) (K : PySem.W.Frag) : List V → Hp → VK → Prop := fun xs H Q => ∃ (p a : Addr) (kvs : List (NestedKey × V)) (ns : List Int), xs = [.ref p] ∧ H p = some (viewO "dict_values" p a) ∧ DAt P w K H a kvs ∧ kvs.map (·.2) = ns.map V.int ∧ 0 < ns.length ∧ ∀ m, m ∈ ns → (∀ y, y ∈ ns → m ≤ y) → Q (.int m) H
def rSumN (P : Program) (w : World) (K : PySem.W.Frag) : List V → Hp → VK → Prop := fun xs H Q => ∃ (p a : Addr) (kvs : List (NestedKey × V)) (ns : List Int), xs = [.ref p] ∧ H p = some (viewO "dict_values" p a) ∧ DAt P w K H a kvs ∧ kvs.map (·.2) = ns.map V.int ∧ Q (.int ns.sum) H
theorem cr_maxN (K : PySem.W.Frag) (hc : X.calm = true) (hp : X.prog = P := by rfl) (hw : X.w = w := by rfl) (hk : X.K = K := by rfl) : CallR X (.builtin "max") (rMaxN P w K) := by
  subst hp hw hk
  intro pins s σ H xs us Q I rx h
  obtain ⟨p, a, kvs, ns, rfl, hpp, ⟨xs, e, hx, rfl⟩, hns, hne, q⟩ := h
  obtain ⟨u, rfl, ru⟩ := vals1 rx
  obtain rfl : u = Value.ref p := ru
  obtain ⟨h1, h2, ys, rel, o, es, ep, e1, e2, e3, e4, e5⟩ := (I.hok a _ e).1
  obtain ⟨hsz, hP⟩ := vals_ent e4 rel hns
  have hv : s.heap.get? p = some (DSub.viewOb "dict_values" a) := (show ObjOk X.prog X.w H s.heap p (viewO "dict_values" p a) from I.hok p _ hpp).1
  refine call_max_walk ?_
  refine DSub.iter_vals hv e1 e3 ?_
  have ha : a < s.heap.objs.size := Heap.lt_size e1
  refine ⟨s.heap.objs.size, [s.heap.objs.size, a], [s.heap.objs.size], es.size, fun i v => ∃ t, v = .int (ns.getD i 0) t, _, fun i j => decide (ns.getD i 0 > ns.getD j 0), rfl, DSub.walksVal (a := a) (show X.A.in1.handled = none from I.ok.hd hc) (Nat.ne_of_lt ha) e3 hP, ⟨Heap.get?_push_size _ rfl, Heap.get?_push_of_some _ e1⟩, fun b hb => ?_, by omega, CmpOf.ints_gt (fun i => ns.getD i 0) (fun i v z => z), fun v h' tk hv' hk => ?_⟩
  · show b < (s.heap.push _).objs.size
    rw [size_push']
    rcases List.mem_cons.mp hb with z | z
    · rw [z]
      exact Nat.lt_succ_self _
    · rw [List.mem_singleton.mp z]
      exact Nat.lt_succ_of_lt ha
  · obtain ⟨t, rfl⟩ := hv'
    obtain ⟨m1', m2'⟩ := argBest_gt (fun i => ns.getD i 0) (es.size - 1)
    have m1 : argBest (fun i j => decide (ns.getD i 0 > ns.getD j 0)) (es.size - 1) ≤ es.size - 1 := m1'
    have m2 : ∀ j, j ≤ es.size - 1 → ns.getD j 0 ≤ ns.getD (argBest (fun i j => decide (ns.getD i 0 > ns.getD j 0)) (es.size - 1)) 0 := m2'
    have hk2 : ∀ b o, s.heap.get? b = some o → h'.get? b = some o := fun b o e => hk b o (fun z => by rw [List.mem_singleton.mp z] at e; exact absurd (Heap.lt_size e) (Nat.lt_irrefl _)) (Heap.get?_push_of_some _ e)
    refine ⟨.int _, H, I.kept (t' := tk) hk2, ⟨t, rfl⟩, q _ (PySem.getD_mem (by omega)) fun y hy => ?_⟩
    obtain ⟨j, hj, e⟩ := List.mem_iff_getElem.mp hy
    have z := m2 j (by omega)
    have e3 : ns.getD j 0 = y := by rw [List.getD_eq_getElem?_getD, List.getElem?_eq_getElem hj, ← e] <;> rfl
    rw [e3] at z
    exact z
theorem cr_minN (K : PySem.W.Frag) (hc : X.calm = true) (hp : X.prog = P := by rfl) (hw : X.w = w := by rfl) (hk : X.K = K := by rfl) : CallR X (.builtin "min") (rMinN P w K) := by
  subst hp hw hk
  intro pins s σ H xs us Q I rx h
  obtain ⟨p, a, kvs, ns, rfl, hpp, ⟨xs, e, hx, rfl⟩, hns, hne, q⟩ := h
  obtain ⟨u, rfl, ru⟩ := vals1 rx
  obtain rfl : u = Value.ref p := ru
  obtain ⟨h1, h2, ys, rel, o, es, ep, e1, e2, e3, e4, e5⟩ := (I.hok a _ e).1
  obtain ⟨hsz, hP⟩ := vals_ent e4 rel hns
  have hv : s.heap.get? p = some (DSub.viewOb "dict_values" a) := (show ObjOk X.prog X.w H s.heap p (viewO "dict_values" p a) from I.hok p _ hpp).1
  refine call_min_walk ?_
  refine DSub.iter_vals hv e1 e3 ?_
  have ha : a < s.heap.objs.size := Heap.lt_size e1
  refine ⟨s.heap.objs.size, [s.heap.objs.size, a], [s.heap.objs.size], es.size, fun i v => ∃ t, v = .int (ns.getD i 0) t, _, fun i j => decide (ns.getD i 0 < ns.getD j 0), rfl, DSub.walksVal (a := a) (show X.A.in1.handled = none from I.ok.hd hc) (Nat.ne_of_lt ha) e3 hP, ⟨Heap.get?_push_size _ rfl, Heap.get?_push_of_some _ e1⟩, fun b hb => ?_, by omega, CmpOf.ints_lt (fun i => ns.getD i 0) (fun i v z => z), fun v h' tk hv' hk => ?_⟩
  · show b < (s.heap.push _).objs.size
    rw [size_push']
    rcases List.mem_cons.mp hb with z | z
    · rw [z]
      exact Nat.lt_succ_self _
    · rw [List.mem_singleton.mp z]
      exact Nat.lt_succ_of_lt ha
  · obtain ⟨t, rfl⟩ := hv'
    obtain ⟨m1', m2'⟩ := argBest_lt (fun i => ns.getD i 0) (es.size - 1)
    have m1 : argBest (fun i j => decide (ns.getD i 0 < ns.getD j 0)) (es.size - 1) ≤ es.size - 1 := m1'
    have m2 : ∀ j, j ≤ es.size - 1 → ns.getD (argBest (fun i j => decide (ns.getD i 0 < ns.getD j 0)) (es.size - 1)) 0 ≤ ns.getD j 0 := m2'
    have hk2 : ∀ b o, s.heap.get? b = some o → h'.get? b = some o := fun b o e => hk b o (fun z => by rw [List.mem_singleton.mp z] at e; exact absurd (Heap.lt_size e) (Nat.lt_irrefl _)) (Heap.get?_push_of_some _ e)
    refine ⟨.int _, H, I.kept (t' := tk) hk2, ⟨t, rfl⟩, q _ (PySem.getD_mem (by omega)) fun y hy => ?_⟩
    obtain ⟨j, hj, e⟩ := List.mem_iff_getElem.mp hy
    have z := m2 j (by omega)
    have e3 : ns.getD j 0 = y := by rw [List.getD_eq_getElem?_getD, List.getElem?_eq_getElem hj, ← e] <;> rfl
    rw [e3] at z
    exact z
theorem pre_sum : ∀ (ns : List Int), preSum (fun i => ns.getD i 0) ns.length = ns.sum
  | [] => rfl
  | n :: ns => by
    show preSum (fun i => (n :: ns).getD i 0) (ns.length + 1) = n + ns.sum
    rw [PySem.W.kdu_shift, ← pre_sum ns]
    rfl
theorem cr_sumN (K : PySem.W.Frag) (hc : X.calm = true) (hp : X.prog = P := by rfl) (hw : X.w = w := by rfl) (hk : X.K = K := by rfl) : CallR X (.builtin "sum") (rSumN P w K) := by
  subst hp hw hk
  intro pins s σ H xs us Q I rx h
  obtain ⟨p, a, kvs, ns, rfl, hpp, ⟨xs, e, hx, rfl⟩, hns, q⟩ := h
  obtain ⟨u, rfl, ru⟩ := vals1 rx
  obtain rfl : u = Value.ref p := ru
  obtain ⟨h1, h2, ys, rel, o, es, ep, e1, e2, e3, e4, e5⟩ := (I.hok a _ e).1
  obtain ⟨hsz, hP⟩ := vals_ent e4 rel hns
  have hv : s.heap.get? p = some (DSub.viewOb "dict_values" a) := (show ObjOk X.prog X.w H s.heap p (viewO "dict_values" p a) from I.hok p _ hpp).1
  refine call_sum_walkAnyS ?_
  refine DSub.iter_vals hv e1 e3 ?_
  have ha : a < s.heap.objs.size := Heap.lt_size e1
  refine ⟨s.heap.objs.size, [s.heap.objs.size, a], [s.heap.objs.size], _, es.size, fun i v => ∃ t, v = .int (ns.getD i 0) t, _, fun i => ns.getD i 0, rfl, (DSub.walksVal (a := a) (show X.A.in1.handled = none from I.ok.hd hc) (Nat.ne_of_lt ha) e3 hP).toS, ⟨Heap.get?_push_size _ rfl, Heap.get?_push_of_some _ e1⟩, fun b hb => ?_, fun i v z => z, fun s' t' hm => ?_⟩
  · show b < (s.heap.push _).objs.size
    rw [size_push']
    rcases List.mem_cons.mp hb with z | z
    · rw [z]
      exact Nat.lt_succ_self _
    · rw [List.mem_singleton.mp z]
      exact Nat.lt_succ_of_lt ha
  · have hk : ∀ b o, s.heap.get? b = some o → s'.heap.get? b = some o := fun b o e =>
      hm.heap b o (fun hI => absurd (Heap.lt_size e) (by rw [List.mem_singleton.mp hI]; exact Nat.lt_irrefl _)) (Heap.get?_push_of_some _ e)
    rw [Moved.eq_with hm]
    refine ⟨.int ns.sum, H, I.kept (h' := s'.heap) (t' := s'.toks) hk, ⟨t', ?_⟩, q⟩
    rw [hsz, pre_sum]
end
end Ef
set_option maxHeartbeats 4000000
namespace Ef
open PySem PySem.Spec PyProof.Rows L2
/-! ### what is counted -/
theorem valV_mem {κ : Type} [DecidableEq κ] : ∀ {kvs : List (κ × V)} {k : κ} {v : V}, (kvs.map (·.1)).Nodup → (k, v) ∈ kvs → valV kvs k = some v
  | [], _, _, _, h => absurd h List.not_mem_nil
  | p :: r, k, v, hn, h => by
    rw [List.map_cons] at hn
    obtain ⟨h1, h2⟩ := List.nodup_cons.mp hn
    by_cases e : p.1 = k
    · rw [valV_pos e]
      rcases List.mem_cons.mp h with z | z
      · rw [← z]
      · exact absurd (List.mem_map.mpr ⟨(k, v), z, rfl⟩) (by rw [← e]; exact h1)
    · rw [valV_neg e]
      rcases List.mem_cons.mp h with z | z
      · exact absurd (by rw [← z]) e
      · exact valV_mem h2 z
theorem valV_some {κ : Type} [DecidableEq κ] : ∀ {kvs : List (κ × V)} {k : κ}, (valV kvs k).isSome = true ↔ k ∈ kvs.map (·.1)
  | [], k => by
    constructor
    · intro h
      cases h
    · intro h
      exact absurd h List.not_mem_nil
  | p :: r, k => by
    rw [List.map_cons, List.mem_cons]
    by_cases e : p.1 = k
    · rw [valV_pos e]
      exact ⟨fun _ => .inl e.symm, fun _ => rfl⟩
    · rw [valV_neg e, valV_some (kvs := r)]
      exact ⟨.inr, fun h => h.resolve_left fun z => e z.symm⟩
theorem putK_keys {κ : Type} [DecidableEq κ] (kvs : List (κ × V)) (k : κ) (v : V) : (putK kvs k v).map (·.1) = if k ∈ kvs.map (·.1) then kvs.map (·.1) else kvs.map (·.1) ++ [k] := by
  unfold putK
  rw [valV_any]
  by_cases c : k ∈ kvs.map (·.1)
  · rw [if_pos c, if_pos (valV_some.mpr c), List.map_map]
    refine List.map_congr_left fun x _ => ?_
    show (if x.1 = k then (x.1, v) else x).1 = x.1
    by_cases e : x.1 = k
    · rw [if_pos e]
    · rw [if_neg e]
  · rw [if_neg c, if_neg (fun z => c (valV_some.mp z)), List.map_append]
    rfl
theorem tally_nodup : ∀ (n : Nat) (ks : List NestedKey), ks.length = n → ((tallyN ks).map (·.1)).Nodup
  | 0, ks, h => by
    rw [List.length_eq_zero_iff.mp h]
    exact List.nodup_nil
  | n + 1, ks, h => by
    obtain ⟨l, x, rfl⟩ : ∃ l x, ks = l ++ [x] := ⟨ks.dropLast, ks.getLast (fun e => by rw [e] at h; cases h), (List.dropLast_concat_getLast _).symm⟩
    have hl : l.length = n := by
      rw [List.length_append] at h
      have : [x].length = 1 := rfl
      omega
    have ih := tally_nodup n l hl
    rw [tally_snoc, putK_keys]
    split
    · exact ih
    · rename_i c
      refine List.nodup_append.mpr ⟨ih, List.nodup_cons.mpr ⟨List.not_mem_nil, List.nodup_nil⟩, fun a ha b hb e => ?_⟩
      rw [List.mem_singleton.mp hb] at e
      exact c (e ▸ ha)
theorem tally_keys (ks : List NestedKey) (k : NestedKey) : k ∈ (tallyN ks).map (·.1) ↔ k ∈ ks := by
  rw [← valV_some, tally_val _ _ rfl]
  by_cases c : ks.count k = 0
  · rw [if_pos c]
    constructor
    · intro h
      cases h
    · intro h
      exact absurd (List.count_pos_iff.mpr h) (by omega)
  · rw [if_neg c]
    exact ⟨fun _ => List.count_pos_iff.mp (by omega), fun _ => rfl⟩
/-- the pairs, by their keys -/
theorem tally_eq (ks : List NestedKey) : tallyN ks = ((tallyN ks).map (·.1)).map fun k => (k, V.int (ks.count k : Nat)) := by
  have hn := tally_nodup _ ks rfl
  have hv := tally_val _ ks rfl
  rw [List.map_map]
  conv => lhs; rw [← List.map_id (tallyN ks)]
  refine List.map_congr_left fun p hp => ?_
  have h1 := valV_mem (k := p.1) (v := p.2) hn hp
  rw [hv] at h1
  split at h1
  · cases h1
  · have h2 := Option.some.inj h1
    show p = (p.1, _)
    rw [h2]
theorem tally_snd (ks : List NestedKey) : (tallyN ks).map (·.2) = (((tallyN ks).map (·.1)).map fun k => ((ks.count k : Nat) : Int)).map V.int := by
  conv => lhs; rw [tally_eq ks]
  rw [List.map_map, List.map_map, List.map_map, List.map_map]
  rfl
theorem sum_oneG {α : Type} [DecidableEq α] {c : α} : ∀ {cs : List α}, cs.Nodup → c ∈ cs → (cs.map fun d => if c = d then 1 else 0).sum = 1
  | [], _, h => absurd h List.not_mem_nil
  | d :: cs, hn, h => by
    obtain ⟨h1, h2⟩ := List.nodup_cons.mp hn
    rw [List.map_cons, List.sum_cons]
    by_cases e : c = d
    · subst e
      have z : ∀ (l : List α), c ∉ l → (l.map fun d => if c = d then 1 else 0).sum = 0 := by
        intro l
        induction l with
        | nil => intro _; rfl
        | cons a l ih =>
          intro hh
          rw [List.map_cons, List.sum_cons, if_neg (fun z : c = a => hh (by rw [z]; exact List.mem_cons_self)), ih fun z => hh (List.mem_cons_of_mem _ z)]
      rw [if_pos rfl, z cs h1]
    · rw [if_neg e, sum_oneG h2 ((List.mem_cons.mp h).resolve_left e)]
theorem sum_addG {α : Type} (f g : α → Nat) : ∀ l : List α, (l.map fun x => f x + g x).sum = (l.map f).sum + (l.map g).sum
  | [] => rfl
  | a :: l => by
    rw [List.map_cons, List.sum_cons, List.map_cons, List.sum_cons, List.map_cons, List.sum_cons, sum_addG f g l]
    omega
theorem sum_countsG {α : Type} [DecidableEq α] {cs : List α} (hn : cs.Nodup) : ∀ {ks : List α}, (∀ k ∈ ks, k ∈ cs) → (cs.map fun c => ks.count c).sum = ks.length
  | [], _ => by
    have : ∀ l : List α, (l.map fun c => ([] : List α).count c).sum = 0 := by
      intro l
      induction l with
      | nil => rfl
      | cons a l ih => rw [List.map_cons, List.sum_cons, ih]; rfl
    exact this cs
  | k :: ks, h => by
    have e : (fun c => (k :: ks).count c) = fun c => ks.count c + if k = c then 1 else 0 := by
      funext c
      rw [List.count_cons]
      congr 1
      by_cases z : k = c
      · rw [if_pos z, if_pos (beq_iff_eq.mpr z)]
      · rw [if_neg z, if_neg (fun y => z (beq_iff_eq.mp y))]
    rw [e, sum_addG, sum_countsG hn fun x hx => h x (List.mem_cons_of_mem _ hx), sum_oneG hn (h k List.mem_cons_self)]
    rfl
theorem sum_ints {α : Type} (f : α → Nat) : ∀ l : List α, (l.map fun k => ((f k : Nat) : Int)).sum = (((l.map f).sum : Nat) : Int)
  | [] => rfl
  | a :: l => by rw [List.map_cons, List.sum_cons, List.map_cons, List.sum_cons, sum_ints f l, Int.natCast_add]
theorem tally_sum (ks : List NestedKey) : (((tallyN ks).map (·.1)).map fun k => ((ks.count k : Nat) : Int)).sum = (ks.length : Int) := by
  rw [sum_ints]
  exact congrArg Int.ofNat (sum_countsG (tally_nodup _ ks rfl) fun k hk => (tally_keys ks k).mpr hk)
/-! of keys that tell what they are made of -/
theorem map_countG {α : Type} [DecidableEq α] (f : α → NestedKey) (inj : ∀ a b, f a = f b → a = b) (ks : List α) (c : α) : (ks.map f).count (f c) = ks.count c := by
  induction ks with
  | nil => rfl
  | cons k r ih =>
    rw [List.map_cons, List.count_cons, List.count_cons, ih]
    congr 1
    by_cases e : k = c
    · rw [e, if_pos (beq_self_eq_true _), if_pos (beq_self_eq_true _)]
    · rw [if_neg (fun z => e (inj _ _ (beq_iff_eq.mp z))), if_neg (fun z => e (beq_iff_eq.mp z))]
theorem tally_getG {α : Type} [DecidableEq α] (f : α → NestedKey) (inj : ∀ a b, f a = f b → a = b) (ks : List α) (c : α) : (valV (tallyN (ks.map f)) (f c)).getD (.int 0) = .int (ks.count c : Nat) := by
  rw [tally_val _ _ rfl, map_countG f inj]
  by_cases e : ks.count c = 0
  · rw [if_pos e, e]
    rfl
  · rw [if_neg e]
    rfl
theorem tally_oneG {α : Type} [DecidableEq α] (f : α → NestedKey) (inj : ∀ a b, f a = f b → a = b) (ks : List α) (c : α) : putK (tallyN (ks.map f)) (f c) (.int ((ks.count c : Nat) + 1)) = tallyN ((ks ++ [c]).map f) := by
  rw [List.map_append]
  show _ = tallyN (ks.map f ++ [f c])
  rw [tally_snoc]
  congr 2
  congr 1
  rw [tally_val _ _ rfl, map_countG f inj]
  by_cases e : ks.count c = 0
  · rw [if_pos e, e]
    rfl
  · rw [if_neg e]
    rfl
theorem tally_lenG (ks : List NestedKey) : (tallyN ks).length ≤ ks.length := by
  unfold tallyN
  have g : ∀ (ks : List NestedKey) (acc : List (NestedKey × V)), (ks.foldl (fun acc k => putK acc k (.int (cntV (valV acc k) + 1))) acc).length ≤ acc.length + ks.length := by
    intro ks
    induction ks with
    | nil => intro acc; exact Nat.le_refl _
    | cons k r ih =>
      intro acc
      rw [List.foldl_cons]
      have h1 := ih (putK acc k (.int (cntV (valV acc k) + 1)))
      have h2 := length_putK acc k (.int (cntV (valV acc k) + 1))
      rw [List.length_cons]
      omega
  have := g ks []
  rw [List.length_nil] at this
  omega
end Ef
set_option maxHeartbeats 4000000
namespace Ef
open PySem PySem.Spec PyProof.Rows L2
/-! ### max(xs, default=d) of a list of ints, one at least -/
theorem foldl_max : ∀ (ns : List Int) (n : Int), (ns.foldl max n = n ∨ ns.foldl max n ∈ ns) ∧ n ≤ ns.foldl max n ∧ ∀ y ∈ ns, y ≤ ns.foldl max n
  | [], n => ⟨.inl rfl, Int.le_refl _, fun _ h => absurd h List.not_mem_nil⟩
  | k :: r, n => by
    obtain ⟨h1, h2, h3⟩ := foldl_max r (max n k)
    rw [List.foldl_cons]
    have e1 : n ≤ max n k := Int.le_max_left n k
    have e2 : k ≤ max n k := Int.le_max_right n k
    refine ⟨?_, Int.le_trans e1 h2, fun y hy => ?_⟩
    · rcases h1 with h1 | h1
      · by_cases c : n ≤ k
        · rw [h1, Int.max_eq_right c]
          exact .inr List.mem_cons_self
        · rw [h1, Int.max_eq_left (by omega)]
          exact .inl rfl
      · exact .inr (List.mem_cons_of_mem _ h1)
    · rcases List.mem_cons.mp hy with rfl | hy
      · exact Int.le_trans e2 h2
      · exact h3 y hy
theorem reads_ints {h : Heap} : ∀ {ns : List Int} {us : List Value}, Vals (ns.map V.int) us → ReadsAll h us (ns.map PyData.int) []
  | [], _, r => by
    cases r
    exact .nil
  | n :: ns, _, r => by
    rw [List.map_cons] at r
    cases r with
    | cons r1 r2 =>
      obtain ⟨t, rfl⟩ := r1
      exact .cons (.int n t) (reads_ints r2)
def rMaxDf (K : PySem.W.Frag) : List V → List V → Hp → VK → Prop := fun vs zs H Q => ∃ (a : Addr) (ns : List Int) (d : V), vs = [V.ref a] ∧ zs = [d] ∧ SqL K H a (ns.map V.int) ∧ 0 < ns.length ∧ ∀ m, m ∈ ns → (∀ y, y ∈ ns → y ≤ m) → Q (.int m) H
section
variable {X : Cx}
theorem cr_maxDf (K : PySem.W.Frag) (hc : X.calm = true) (hu : X.A.units + 64 < cLine) (hk : X.K = K := by rfl) : CallRK X (.builtin "max") ["default"] (rMaxDf K) := by
  subst hk
  intro pins s σ H vs zs us ws Q I r rz h
  obtain ⟨a, ns, d, rfl, rfl, hs, hne, q⟩ := h
  obtain ⟨u, rfl, ru⟩ := vals1 r
  obtain rfl : u = Value.ref a := ru
  obtain ⟨z, rfl, rz1⟩ := vals1 rz
  obtain ⟨its, rv, hl, _⟩ := I.list hs
  have hz : PyData.depthAll (ns.map PyData.int) = 0 := PySem.W.depth_ints ns
  show wpAny _ _ (call (.builtin "max") [.ref a] [(Str.ofString "default", z)]) _ _ s
  refine PySem.W.max_list_default (I.ok.hd hc) hl.isList (by simpa using reads_ints rv) ⟨fun x hx y hy => ?_, fun x hx => ?_⟩ (by rw [hz]; omega) (fun e => ?_) fun y ys i v h' tk bs e hv hr hk' => ?_
  · obtain ⟨i, _, rfl⟩ := List.mem_map.mp hx
    obtain ⟨j, _, rfl⟩ := List.mem_map.mp hy
    rfl
  · obtain ⟨i, _, rfl⟩ := List.mem_map.mp hx
    intro z
    cases z
  · rw [List.map_eq_nil_iff.mp e] at hne
    exact absurd hne (by decide)
  · cases ns with
    | nil => exact absurd hne (by decide)
    | cons n ns =>
      rw [List.map_cons] at e
      injection e with e1 e2
      subst e1 e2
      rw [PySem.W.maxD_ints] at hr
      cases hr
      obtain ⟨m1, m2, m3⟩ := foldl_max ns n
      refine ⟨.int (ns.foldl max n), H, I.kept (t' := tk) hk', ⟨_, rfl⟩, q _ ?_ fun y hy => ?_⟩
      · rcases m1 with m1 | m1
        · rw [m1]
          exact List.mem_cons_self
        · exact List.mem_cons_of_mem _ m1
      · rcases List.mem_cons.mp hy with rfl | hy
        · exact m2
        · exact m3 y hy
end
end Ef
set_option maxHeartbeats 4000000
namespace Ef
open PySem PySem.Spec PyProof.Rows L2
/-! ### set - set, of ints -/
section
variable {P : Program} {w : World} {A : Around} {E : Value → Shared → Prop} {s : Shared}
/-- the flags of a fresh set's table, turned -/
theorem setR_flags {h : Heap} {r : Addr} {o : Obj} {es : Array (Int × Value)} {ep : Nat} {t : SetTable} {S : Int → Bool} {n : Nat} {l p : Bool} (ho : h.get? r = some o) (hex : o.ExactSet) (hd : o.data = .set es ep t) (g : ∀ e ∈ es.toList, GoodE e) (nd : (es.toList.map keyOf).Nodup) (hm : ∀ k, S k = true ↔ k ∈ es.toList.map keyOf)
    (hb : es.size < scanBound) (hf : t.fits es.size = true) (hn : es.size = n) (hr : Ris t.place.toList) (hl : w.params.followText "set-order" = true ∨ l = true) :
    SetR w (h.update r (Obj.putSet es { t with led := l, plain := p })) r S n :=
  ⟨_, es, _, _, store_at ho hd, hex, rfl, g, nd, hm, hb, hf, hn, hr, hl⟩
theorem quiet_at : ∀ (l : List Addr) {Q : Bool → Shared → Prop}, (∀ a ∈ l, ∃ S n, SetR w s.heap a S n) → Q true s → wpAny (model P w) A (setsQuiet l) Q E s := by
  intro l Q hl q
  unfold setsQuiet
  refine wpAny_bind (wpAny_forIn_list _ (fun rest (b : Option Bool × Unit) s' => b.1 = none ∧ s' = s ∧ ∀ a ∈ rest, ∃ S n, SetR w s.heap a S n) _ ?_ ?_ l _ ⟨rfl, rfl, hl⟩)
  · rintro a rest ⟨b1, b2⟩ s1 ⟨hb, rfl, hl⟩
    obtain ⟨S, n, o, es, ep, t, ho, hex, hd, g, nd, hm, hsb, hf, hn, hr, hled⟩ := hl a List.mem_cons_self
    refine wpAny_bind (wpAny_setEntries_of ho hd hf ?_)
    refine wpAny_bind (MeetsSeq2.wpAny_forIn_array _ (fun rest (b : Option Bool × Unit) s' => b.1 = none ∧ s' = s1 ∧ ∀ e ∈ rest, GoodE e) _ ?_ ?_ es _ ⟨rfl, rfl, g⟩)
    · rintro ⟨h, x⟩ rest ⟨b1, b2⟩ s2 ⟨hb, rfl, g⟩
      obtain ⟨k, tk, rfl, e2⟩ := g _ List.mem_cons_self
      exact wpAny_pure ⟨rfl, rfl, fun e he => g e (List.mem_cons_of_mem _ he)⟩
    · rintro ⟨b1, b2⟩ s2 ⟨hb, rfl, _⟩
      obtain rfl : b1 = none := hb
      exact wpAny_pure ⟨rfl, rfl, fun a ha => hl a (List.mem_cons_of_mem _ ha)⟩
  · rintro ⟨b1, b2⟩ s1 ⟨hb, rfl, _⟩
    obtain rfl : b1 = none := hb
    exact wpAny_pure q
/-- all elements of a set, in an order -/
theorem setWalk_at {a : Addr} {o : Obj} {es : Array (Int × Value)} {ep : Nat} {t : SetTable} {Q : Array (Int × Value) → Shared → Prop} (ho : s.heap.get? a = some o) (hd : o.data = .set es ep t) (hf : t.fits es.size = true) (hl : w.params.followText "set-order" = true ∨ t.led = true)
    (h : ∀ (es' : Array (Int × Value)) d, es'.toList.Perm es.toList → Q es' { s with drawn := d }) : wpAny (model P w) A (setWalk a) Q E s := by
  unfold setWalk
  refine wpAny_bind (wpAny_setState_of ho hd hf ?_)
  dsimp only
  refine wpAny_bind (wpAny_byText ?_)
  cases hb : w.params.followText "set-order" with
  | true =>
    refine wp_if_pos rfl ?_
    exact wpAny_bind (wpAny_askSetting (wpAny_pure (h _ s.drawn (pick_perm _ _))))
  | false =>
    refine wp_if_neg (by simp) ?_
    try refine wpAny_bind (wpAny_pure ?_)
    have hl2 : t.led = true := hl.resolve_left (by rw [hb]; exact Bool.false_ne_true)
    by_cases hdr : (!t.plain && decide (es.size > 1)) = true
    · refine wp_if_pos hdr ?_
      exact wpAny_bind (drawOrder_at _ _ _ _ (Nat.le_of_eq Array.length_toList) fun ys d hp => wpAny_pure (h _ d (by simpa using hp)))
    · refine wp_if_neg hdr ?_
      try refine wpAny_bind (wpAny_pure ?_)
      refine wpAny_bind (wpAny_of_eq (a := ()) ?_ ?_)
      · show (if (!t.led && decide (es.size > 1)) = true then unsupported "set:maker-not-led" else pure ()) = pure ()
        rw [hl2]
        rfl
      · exact wpAny_pure (h es s.drawn (List.Perm.refl _))
theorem walkU_at {a q r : Addr} {o : Obj} {es : Array (Int × Value)} {ep : Nat} {t : SetTable} {S3 : Int → Bool} {n3 : Nat} {Q : Array (Int × Value) → Shared → Prop} (ho : s.heap.get? a = some o) (hd : o.data = .set es ep t) (hf : t.fits es.size = true) (hl : w.params.followText "set-order" = true ∨ t.led = true)
    (hq : ∀ b ∈ [a, q, r], ∃ S n, SetR w s.heap b S n) (R3 : SetR w s.heap r S3 n3)
    (h : ∀ (es' : Array (Int × Value)) h' d, es'.toList.Perm es.toList → Heap.SameBut r s.heap h' → SetR w h' r S3 n3 → Q es' { s with heap := h', drawn := d }) : wpAny (model P w) A (setWalkUnseen a [q, r] (some r)) Q E s := by
  unfold setWalkUnseen
  have walk : wpAny (model P w) A (setWalk a) Q E s := setWalk_at ho hd hf hl fun es' d hp => h es' s.heap d hp (Heap.SameBut.refl r s.heap) R3
  refine wpAny_bind (wpAny_setState_of ho hd hf ?_)
  dsimp only
  refine wpAny_bind (wpAny_byText ?_)
  by_cases hc : (w.params.followText "set-order" || (t.led && t.plain) || decide (es.size ≤ 1)) = true
  · refine wp_if_pos hc ?_
    first | exact walk | exact wpAny_bind walk
  · refine wp_if_neg hc ?_
    try refine wpAny_bind (wpAny_pure ?_)
    have hbt : w.params.followText "set-order" = false := by
      cases hb : w.params.followText "set-order" with
      | false => rfl
      | true => rw [hb] at hc; exact absurd rfl hc
    have hl2 : t.led = true := hl.resolve_left (by rw [hbt]; exact Bool.false_ne_true)
    refine wpAny_bind (quiet_at _ hq ?_)
    refine wp_if_neg (by simp) ?_
    try refine wpAny_bind (wpAny_pure ?_)
    refine wpAny_bind (wpAny_rule ?_)
    obtain ⟨o3, es3, ep3, t3, ho3, hex3, hd3, g3, nd3, hm3, hb3, hf3, hn3, hr3, hl3⟩ := R3
    refine wpAny_bind (wpAny_setState_of ho3 hd3 hf3 ?_)
    dsimp only
    by_cases hw : ((t3.led && !t.led) || (t3.plain && !t.plain)) = true
    · refine wp_if_pos hw ?_
      refine wpAny_bind (wpAny_storeSet_of ho3 hd3 ?_ (fits_of_scanBound hb3))
      refine wpAny_pure (h es _ s.drawn (List.Perm.refl _) (Heap.SameBut.update ..) ?_)
      refine setR_flags ho3 hex3 hd3 g3 nd3 hm3 hb3 hf3 hn3 hr3 (hl3.imp id fun z => ?_)
      rw [z, hl2]
      rfl
    · refine wp_if_neg hw ?_
      try refine wpAny_bind (wpAny_pure ?_)
      exact wpAny_pure (h es s.heap s.drawn (List.Perm.refl _) (Heap.SameBut.refl ..) ⟨o3, es3, ep3, t3, ho3, hex3, hd3, g3, nd3, hm3, hb3, hf3, hn3, hr3, hl3⟩)
theorem setR_type {h : Heap} {a : Addr} {S : Int → Bool} {n : Nat} (R : SetR w h a S n) (g : Array GenState) (d : Drawn) (tk : Nat) (os : OsState) : Shared.TypeIs { heap := h, gens := g, drawn := d, toks := tk, os := os } (.ref a) "set" := by
  obtain ⟨o, es, ep, t, ho, hex, _⟩ := R
  exact ⟨o, ho, hex.1⟩
theorem anySet_at {a : Addr} {S : Int → Bool} {n : Nat} {Q : Bool → Shared → Prop} (R : SetR w s.heap a S n) (h : Q true s) : wpAny (model P w) A (Builtin.Frozenset.isAnySet (.ref a)) Q E s := by
  unfold Builtin.Frozenset.isAnySet
  refine wpAny_bind (wpAny_isInstance (setR_type R _ _ _ _) sub_set_self ?_)
  exact wpAny_pure h
theorem baseOf_at {a : Addr} {S : Int → Bool} {n : Nat} {Q : Value → Shared → Prop} (R : SetR w s.heap a S n) (h : Q (.type "set") s) : wpAny (model P w) A (Builtin.Frozenset.baseOf a) Q E s := by
  unfold Builtin.Frozenset.baseOf
  refine wpAny_bind (wpAny_isInstance (setR_type R _ _ _ _) sub_set_self ?_)
  exact wpAny_pure h
theorem sizeOf_at {a : Addr} {S : Int → Bool} {n : Nat} {Q : Nat → Shared → Prop} (R : SetR w s.heap a S n) (h : Q n s) : wpAny (model P w) A (Builtin.Frozenset.sizeOf a) Q E s := by
  obtain ⟨o, es, ep, t, ho, hex, hd, g, nd, hm, hb, hf, hn, hr, hl⟩ := R
  unfold Builtin.Frozenset.sizeOf
  refine wpAny_bind (wpAny_setEntries_of ho hd hf (wpAny_pure ?_))
  rw [hn]
  exact h
theorem newSet_at {Q : Value → Shared → Prop} (h : ∀ h', (∀ b u, s.heap.get? b = some u → h'.get? b = some u) → h'.objs.size = s.heap.objs.size + 1 → SetR w h' s.heap.objs.size (fun _ => false) 0 → Q (.ref s.heap.objs.size) { s with heap := h' }) : wpAny (model P w) A (newSet (.type "set")) Q E s := by
  unfold newSet setsByText
  refine wpAny_bind (wpAny_bind (wpAny_askSetting (wpAny_pure ?_)))
  dsimp only
  simp only [newObj]
  refine wpAny_bind (wpAny_alloc (wpAny_pure (h _ (fun b u e => Heap.get?_push_of_some _ e) (Heap.size_push ..) ?_)))
  exact (setR_new_at (ns := []) (Heap.get?_push_size _ rfl)).congr fun k => by simp
theorem diff_at {a q : Addr} {S T : Int → Bool} {c e : Nat} {nm : String} {Q : Value → Shared → Prop} (Ra : SetR w s.heap a S c) (Rq : SetR w s.heap q T e) (small : c / 4 ≤ e) (room : c + 1 < scanBound)
    (h : ∀ h' d m, (∀ b u, s.heap.get? b = some u → h'.get? b = some u) → SetR w h' s.heap.objs.size (fun k => S k && !T k) m → Q (.ref s.heap.objs.size) { s with heap := h', drawn := d }) :
    wpAny (model P w) A (Builtin.Frozenset.difference nm a (.ref q)) Q E s := by
  unfold Builtin.Frozenset.difference
  dsimp only
  refine wpAny_bind (anySet_at Rq ?_)
  refine wp_if_neg (by simp) ?_
  refine wpAny_bind (m := Builtin.Frozenset.addrOf (.ref q)) (wpAny_pure ?_)
  refine wp_if_neg (by simp) ?_
  refine wp_if_pos rfl ?_
  refine wpAny_bind (sizeOf_at Rq ?_)
  refine wpAny_bind (sizeOf_at Ra ?_)
  refine wp_if_neg (by omega) ?_
  refine wpAny_bind (baseOf_at Ra ?_)
  refine wpAny_bind (newSet_at fun h1 k1 z1 R1 => ?_)
  generalize hr0 : s.heap.objs.size = r at R1 z1 h ⊢
  have hra : a < r := by rw [← hr0]; exact Ra.lt
  have hrq : q < r := by rw [← hr0]; exact Rq.lt
  refine wpAny_bind (m := Builtin.Frozenset.addrOf (.ref r)) (wpAny_pure ?_)
  have Ra1 := Ra.at (h' := h1) (k1 a)
  have Rq1 := Rq.at (h' := h1) (k1 q)
  obtain ⟨o, es, ep, t, ho, hex, hd, g, nd, hm, hb, hf, hn, hr, hl⟩ := id Ra1
  refine wpAny_bind (wpAny_setEpoch_of ho hd hf ?_)
  refine wpAny_bind (wpAny_holding ?_)
  refine wpAny_bind (wp_if_pos rfl ?_)
  refine walkU_at ho hd hf hl (fun b hb => ?_) R1 fun es' h2 d hp sb R2 => ?_
  · simp only [List.mem_cons, List.not_mem_nil, or_false] at hb
    rcases hb with rfl | rfl | rfl
    · exact ⟨_, _, Ra1⟩
    · exact ⟨_, _, Rq1⟩
    · exact ⟨_, _, R1⟩
  refine wpAny_bind (MeetsSeq2.wpAny_forIn_array _ (fun rest (b : PUnit) s' => ∃ h' m, s' = { s with heap := h', drawn := d } ∧ Heap.SameBut r h1 h' ∧ SetR w h' r (fun k => S k && !T k && !decide (k ∈ rest.map keyOf)) m ∧ m + rest.length ≤ c ∧ (∀ e ∈ rest, GoodE e) ∧ (rest.map keyOf).Nodup ∧ ∀ k ∈ rest.map keyOf, S k = true) _ ?_ ?_ es' _ ⟨h2, 0, rfl, sb, R2.congr fun k => ?_, ?_, ?_, ?_, ?_⟩)
  · rintro ⟨hh, x⟩ rest b s' ⟨h', m, rfl, sb, R, ml, g, nd, hS⟩
    obtain ⟨k, tk, e1, e2⟩ := g _ List.mem_cons_self
    obtain rfl : x = Value.int k tk := e1
    obtain rfl : hh = hashInt k := e2
    have kk : keyOf (hashInt k, Value.int k tk) = k := rfl
    rw [List.map_cons, kk] at nd hS R
    obtain ⟨nk, nd⟩ := List.nodup_cons.mp nd
    have hSk : S k = true := hS k List.mem_cons_self
    have ml' : m + rest.length + 1 ≤ c := ml
    have un : ∀ (h3 : Heap) {Q : Unit → Shared → Prop}, Heap.SameBut r h1 h3 → Q () { s with heap := h3, drawn := d } → wpAny (model P w) A (Builtin.Frozenset.unchanged nm a ep) Q E { s with heap := h3, drawn := d } := fun h3 Q sb3 hq => by
      unfold Builtin.Frozenset.unchanged
      refine wpAny_bind (wpAny_setEpoch_of ((sb3.2 a (Nat.ne_of_lt hra)).trans ho) hd hf ?_)
      exact wp_if_neg (by simp) (wpAny_pure hq)
    refine wpAny_bind (wpAny_holding (wp_if_pos rfl ?_))
    obtain ⟨oq, esq, epq, tq, hoq, hexq, hdq, gq, ndq, hmq, hbq, hfq, hnq, hrq', hlq⟩ := Rq1
    refine wpAny_bind (PySem.W.setFind_any (knd := intKind P w) (S := T) (k := k) (intKind_is P w k tk) rfl ((sb.2 q (Nat.ne_of_lt hrq)).trans hoq) hdq (good_elems gq) (fun j => (hmq j).trans (good_mem gq j)) hbq hfq fun rr hrr => ?_)
    refine wpAny_bind (wpAny_pure ?_)
    rw [hrr]
    cases hT : T k with
    | true =>
      refine wp_if_neg (by simp) (wpAny_pure ?_)
      refine wpAny_bind (un h' sb (wpAny_pure ⟨h', m, rfl, sb, R.congr fun j => ?_, by omega, fun e he => g e (List.mem_cons_of_mem _ he), nd, fun j hj => hS j (List.mem_cons_of_mem _ hj)⟩))
      by_cases e : j = k
      · rw [e, hT]
        simp
      · simp [e, beq_eq_false_iff_ne.mpr e]
    | false =>
      refine wp_if_pos (by simp) (wpAny_bind ?_)
      refine setR_add_hashed R (by omega) fun h3 sb3 R3 => wpAny_pure ?_
      have sb13 := sb.trans sb3
      refine wpAny_bind (un h3 sb13 (wpAny_pure ⟨h3, _, rfl, sb13, R3.congr fun j => ?_, ?_, fun e he => g e (List.mem_cons_of_mem _ he), nd, fun j hj => hS j (List.mem_cons_of_mem _ hj)⟩))
      · by_cases e : j = k
        · rw [e, hT, hSk]
          simp [nk]
        · simp [e, beq_eq_false_iff_ne.mpr e]
      · split <;> omega
  · rintro b s' ⟨h', m, rfl, sb, R, ml, g, nd, hS⟩
    refine wpAny_pure (wpAny_pure (h h' d m (fun b u e => ?_) (R.congr fun k => ?_)))
    · have := Heap.lt_size e
      rw [hr0] at this
      exact (sb.2 b (Nat.ne_of_lt this)).trans (k1 b u e)
    · simp
  · have hp2 : (es'.toList.map keyOf).Perm (es.toList.map keyOf) := hp.map _
    cases hS : S k with
    | false => rfl
    | true =>
      have : k ∈ es'.toList.map keyOf := hp2.mem_iff.mpr ((hm k).mp hS)
      simp [this]
  · rw [hp.length_eq, Array.length_toList, hn]
    omega
  · exact fun e he => g e (hp.mem_iff.mp he)
  · exact (hp.map keyOf).nodup_iff.mpr nd
  · exact fun k hk => (hm k).mpr ((hp.map keyOf).mem_iff.mp hk)
end
theorem entry_set_sub : entryFor table "set.__sub__" = some Builtin.«frozenset.__sub__» :=
  entryFor_alias (id' := "frozenset.__sub__") (by kernel_rfl) rfl (by decide +kernel) (by kernel_rfl)
def rSetSub (w : World) : R2 := fun x y H Q => ∃ (p q : Addr) (S T : Int → Bool) (c e : Nat), x = .ref p ∧ y = .ref q ∧ H p = some (SetO w p S c) ∧ H q = some (SetO w q T e) ∧ c / 4 ≤ e ∧ c ≤ 4000 ∧
  ∀ r m, H r = none → (∃ ks : List Int, ks.Nodup ∧ (∀ k, k ∈ ks ↔ (S k && !T k) = true) ∧ ks.length = m) → Q (.ref r) (upd H r (SetO w r (fun k => S k && !T k) m))
section
variable {X : Cx} {w : World}
theorem op_setSub (hw : X.w = w := by rfl) : OpR X (binaryOp .Sub) (rSetSub w) := by
  subst hw
  intro pins s σ H x y v u Q I rx ry h
  obtain ⟨p, q, S, T, c, e, rfl, rfl, hp, hq, small, room, k⟩ := h
  cases rx
  cases ry
  have Rp := setO_get I hp
  have Rq := setO_get I hq
  refine wpAny_binaryOp_same (setR_type Rp _ _ _ _) (setR_type Rq _ _ _ _) F.fills_set_sub F.slot_set_sub (wpAny_call_entry F.slot_set_sub (setR_type Rp _ _ _ _) entry_set_sub ?_ (F.args_set_sub_2 _ _))
  refine wpAny_bind (m := Builtin.Frozenset.slot1 "__sub__" _) (wpAny_of_eq (a := (.ref p, .ref q)) (by rfl) ?_)
  dsimp only
  refine wpAny_bind (wpAny_bind (anySet_at Rp ?_))
  refine anySet_at Rq ?_
  refine wp_if_neg (by simp) ?_
  refine wpAny_bind (m := Builtin.Frozenset.addrOf (.ref p)) (wpAny_pure ?_)
  refine wpAny_bind (diff_at Rp Rq small (by unfold scanBound; omega) fun h' d m kp R => ?_)
  have hn : H s.heap.objs.size = none := I.hok.fresh (Nat.le_refl _)
  refine wpAny_pure ⟨_, rfl, (fun z => nomatch z), .ref _, _, I.call (d' := d) (t' := s.toks) (ch := []) (Un.laid kp (Nat.le_refl _) hn) (I.hok.laid kp (Nat.le_refl _) (setO_new R)) I.bare (fun _ z => nomatch z), rfl, k _ m hn ?_⟩
  obtain ⟨o, es, ep, t, _, _, _, _, nd, mem, _, _, sz, _⟩ := R
  exact ⟨es.toList.map keyOf, nd, fun j => (mem j).symm, by rw [List.length_map, Array.length_toList]; exact sz⟩
end
end Ef
set_option maxHeartbeats 4000000
namespace Ef
open PySem PySem.Spec PyProof.Rows L2
/-! ### a tuple whose object is known; dict(t) of a tuple of pairs -/
def rTupF (K : PySem.W.Frag) : List V → Hp → VK → Prop := fun xs H Q => ∃ p ys, xs = [.ref p] ∧ SqL K H p ys ∧ ∀ l o, H l = none → o.dict = none → Q (.ref l) (upd H l (.frz o (.tup ys)))
section
variable {X : Cx}
theorem call_tupleF (K : PySem.W.Frag) (h : X.K = K := by rfl) : CallR X (.type "tuple") (rTupF K) := by
  subst h
  intro pins s σ H xs us Q I r h
  obtain ⟨p, ys, rfl, hq, q⟩ := h
  obtain ⟨u, rfl, rx⟩ := vals1 r
  cases rx
  obtain ⟨its, r', pl, hz⟩ := I.list hq
  have hlen := r'.length
  refine call_tuple_list pl.isList (fun h' kp => ?_) (by simp only [List.size_toArray] <;> omega)
  have I1 : Inv X pins σ H { s with heap := h' } := I.kept (t' := s.toks) kp
  have I2 : Inv X pins σ (upd H h'.objs.size (.frz { cls := .type "tuple", data := .seq its.toArray } (.tup ys))) { s with heap := h'.push { cls := .type "tuple", data := .seq its.toArray } } :=
    I1.laid (t' := s.toks) (fun b o e => Heap.get?_push_of_some _ e) (Nat.le_refl _) (show ObjOk X.prog X.w _ _ _ (.frz _ (.tup ys)) from ⟨Heap.get?_push_size _ rfl, hz, its, r', IsTup.new _ _⟩)
  exact ⟨.ref h'.objs.size, _, I2, rfl, q _ _ (I1.hok.fresh (Nat.le_refl _)) rfl⟩
/-- a tuple that is walked through in a comprehension inside a comprehension -/
theorem pi_tupK (K : PySem.W.Frag) {tg l : Expr} {tl : TE} (hl : PE X l tl) (h : X.K = K := by rfl) : PI X tg l (iTup K tl) := h ▸ pi_tup hl
def rDictF (K : PySem.W.Frag) : List V → Hp → VK → Prop := fun xs H Q => ∃ (a : Addr) (o : Obj) (ps : List Addr) (kvs : List (Key × V)), xs = [.ref a] ∧ H a = some (.frz o (.tup (ps.map V.ref))) ∧ o.dict = none ∧ PySem.Paired (fun p kv => SqT K H p [kV kv.1, kv.2]) ps kvs ∧ ∀ p, H p = none → Q (.ref p) (upd H p (.dK (mergeK [] kvs)))
theorem call_dictF (K : PySem.W.Frag) (hcalm : X.calm = true) (h : X.K = K := by rfl) : CallR X (.type "dict") (rDictF K) := by
  subst h
  intro pins s σ H xs us Q I r q
  obtain ⟨a, o, ps, kvs, ex, hq, hod, hp, q⟩ := q
  subst ex
  obtain ⟨u, eu, rx⟩ := vals1 r
  subst eu
  cases rx
  obtain ⟨e1, hz, its, rv, o2, e2, hc, n, hdat⟩ := I.hok a _ hq
  rw [e1] at e2
  obtain rfl := Option.some.inj e2
  have ei := refs_at rv
  subst ei
  rw [List.length_map] at hz
  obtain ⟨prs, rel, hl, hpr⟩ := pairs_of I hp
  -- the pairs as values
  have ex : ∀ j, ∃ u : Value, j < prs.length → ∃ b : Addr, ps[j]? = some b ∧ ∀ q, prs[j]? = some q → IsTup s.heap b #[u, q.2] ∧ keyIs q.1 u = true := fun j => by
    by_cases c : j < prs.length
    · obtain ⟨b, u, z1, z2, z3⟩ := hpr j prs[j] (List.getElem?_eq_getElem c)
      exact ⟨u, fun _ => ⟨b, z1, fun q hq => by
        rw [List.getElem?_eq_getElem c] at hq
        obtain rfl := Option.some.inj hq
        exact ⟨z2, z3⟩⟩⟩
    · exact ⟨.none, fun z => absurd z c⟩
  let U : Nat → Value := fun j => (ex j).choose
  have hU : ∀ j, j < prs.length → ∃ b : Addr, ps[j]? = some b ∧ ∀ q, prs[j]? = some q → IsTup s.heap b #[U j, q.2] ∧ keyIs q.1 (U j) = true := fun j => (ex j).choose_spec
  let vs : List (Value × Value) := (List.range prs.length).map fun j => (U j, (prs[j]?.map (·.2)).getD .none)
  have hvl : vs.length = prs.length := by
    show ((List.range prs.length).map _).length = _
    rw [List.length_map, List.length_range]
  have hva : ∀ j k v, vs[j]? = some (k, v) → ∃ q, prs[j]? = some q ∧ k = U j ∧ v = q.2 := fun j k v hj => by
    have hj' : ((List.range prs.length).map fun j => (U j, (prs[j]?.map (·.2)).getD .none))[j]? = some (k, v) := hj
    rw [List.getElem?_map] at hj'
    obtain ⟨i, hi, e⟩ := Option.map_eq_some_iff.mp hj'
    obtain ⟨hlt, ei⟩ := List.getElem?_eq_some_iff.mp hi
    rw [List.getElem_range] at ei
    subst ei
    rw [List.length_range] at hlt
    refine ⟨prs[j], List.getElem?_eq_getElem hlt, (congrArg Prod.fst e).symm, ?_⟩
    have := (congrArg Prod.snd e).symm
    rw [List.getElem?_eq_getElem hlt] at this
    exact this
  refine PySem.call_dict_pairs (knd := mixKind X.prog X.w) (kvs := prs) (PairArg.tuple (prog := X.prog) (w := X.w) a (ps.map Value.ref).toArray (fun j => (ps[j]?).getD 0) vs) (I.ok.hd hcalm) ⟨⟨o, n, e1, hc, hod, hdat⟩, ?_, fun j k v hj => ?_⟩ ⟨hvl.symm, fun i key v hj => ?_⟩ (by omega) fun h' tk hd' k => ?_
  · rw [List.size_toArray, List.length_map, hvl, hl]
  · obtain ⟨q, hq, rfl, rfl⟩ := hva j k v hj
    obtain ⟨b, hb, hb2⟩ := hU j (List.getElem?_eq_some_iff.mp hq).1
    have eb : (ps[j]?).getD 0 = b := by rw [hb]; rfl
    refine ⟨?_, .inl ?_⟩
    · show (ps.map Value.ref).toArray[j]? = some (.ref ((ps[j]?).getD 0))
      rw [eb, List.getElem?_toArray, List.getElem?_map, hb]
      rfl
    · show s.heap.IsTuple ((ps[j]?).getD 0) #[U j, q.2]
      rw [eb]
      exact (hb2 q hq).1
  · obtain ⟨q, hq, rfl, rfl⟩ := hva i key v hj
    obtain ⟨b, hb, hb2⟩ := hU i (List.getElem?_eq_some_iff.mp hq).1
    exact ⟨q.1, hq, (hb2 q hq).2⟩
  · have hm : (s.heap.objs.size == sysModules) = false := beq_eq_false_iff_ne.mpr (Nat.ne_of_gt I.big)
    have hlen : (mergeK [] kvs).length ≤ sizeLine := by
      refine Nat.le_trans (length_mergeK kvs []) ?_
      rw [List.length_nil, Nat.zero_add, rel.length, hl]
      exact hz
    exact ⟨.ref s.heap.objs.size, upd H s.heap.objs.size (.dK (mergeK [] kvs)), I.laid (t' := tk) (fun b o e => k b o List.not_mem_nil e) (Nat.le_refl _) (show ObjOk X.prog X.w _ _ _ (.dK (mergeK [] kvs)) from ⟨hlen, hm, merged [] prs, KV.merge rel .nil, hd'⟩), rfl, q _ (I.hok.fresh (Nat.le_refl _))⟩
end
end Ef
namespace Ef
/-! ### levels that are equal, and what follows for the live servers -/
def edgE (s : Nat) (r : List Nat) : List Nat × Nat := (srt (r.take s), r.getD s 0)
def cE (es : List (List Nat × Nat)) (e : List Nat × Nat) : Nat := es.countP fun a => decide (a = e)
theorem cE_app (a b : List (List Nat × Nat)) (e : List Nat × Nat) : cE (a ++ b) e = cE a e + cE b e := List.countP_append
theorem cE_perm {a b : List (List Nat × Nat)} (h : a.Perm b) (e : List Nat × Nat) : cE a e = cE b e := h.countP_eq _
theorem cE_map {α : Type} (f : α → List Nat × Nat) (e : List Nat × Nat) (l : List α) : cE (l.map f) e = l.countP fun a => decide (f a = e) := by
  unfold cE
  rw [List.countP_map]
  rfl
/-- all level numbers of the level are w -/
def Lev (n s w : Nat) (rows : List (List Nat)) : Prop := ∀ e ∈ allE n s, cE (rows.map (edgE s)) e = w
/-- rows of a table -/
def Tab (n d : Nat) (rows : List (List Nat)) : Prop := ∀ r ∈ rows, r.length = d ∧ r.Nodup ∧ ∀ x ∈ r, x < n
theorem srt_eq {a b : List Nat} (h : a.Perm b) : srt a = srt b := srt_of ((srt_perm a).trans h) (srt_le a)
theorem srt_self {a : List Nat} (h : Asc a) : srt a = a := (srt_of (List.Perm.refl a) (h.imp fun z => Nat.le_of_lt z)).symm
theorem perm_of_srt {a b : List Nat} (h : srt a = srt b) : a.Perm b := (srt_perm a).symm.trans (h ▸ srt_perm b)
theorem edgE_mem {n d s : Nat} {rows : List (List Nat)} (G : Tab n d rows) (hs : s < d) : ∀ e ∈ rows.map (edgE s), e ∈ allE n s := fun e he => by
  obtain ⟨r, hr, rfl⟩ := List.mem_map.mp he
  obtain ⟨h1, h2, h3⟩ := G r hr
  have pm := srt_perm (r.take s)
  have hlt : s < r.length := by omega
  have hx : r.getD s 0 = r[s] := by
    rw [List.getD_eq_getElem?_getD, List.getElem?_eq_getElem hlt]
    rfl
  have nd : (r.take s).Nodup := h2.sublist (List.take_sublist _ _)
  refine allE_mem ?_ ?_ (srt_asc nd) fun y hy => ?_
  · rw [hx]
    exact h3 _ (List.getElem_mem _)
  · rw [pm.length_eq, List.length_take]
    omega
  · have hy2 := pm.mem_iff.mp hy
    refine ⟨h3 y (List.mem_of_mem_take hy2), fun e => ?_⟩
    obtain ⟨i, hi⟩ := List.getElem?_of_mem hy2
    rw [List.getElem?_take] at hi
    split at hi
    · rename_i hlt2
      have h4 : r[s]? = some y := by
        rw [List.getElem?_eq_getElem hlt, e, hx]
      have := (List.getElem?_inj (show i < r.length by omega) h2).mp (hi.trans h4.symm)
      omega
    · cases hi
theorem allE_nodup (n s : Nat) : (allE n s).Nodup := by
  unfold allE
  have key : ∀ l : List Nat, l.Nodup → (l.flatMap fun x => (combs (without n x) s).map fun c => (c, x)).Nodup := by
    intro l
    induction l with
    | nil => intro _; exact List.nodup_nil
    | cons x l ih =>
      intro h
      obtain ⟨h1, h2⟩ := List.nodup_cons.mp h
      rw [List.flatMap_cons]
      refine List.nodup_append.mpr ⟨List.Pairwise.map _ (fun a b hab z => hab (congrArg Prod.fst z)) (combsNodup _ _ (asc_nodup (without_asc n x))), ih h2, fun a ha b hb e => ?_⟩
      obtain ⟨c, _, rfl⟩ := List.mem_map.mp ha
      obtain ⟨y, hy, hb⟩ := List.mem_flatMap.mp hb
      obtain ⟨c', _, rfl⟩ := List.mem_map.mp hb
      have : x = y := congrArg Prod.snd e
      exact h1 (this ▸ hy)
  exact key _ List.nodup_range
theorem sum_one' {α : Type} [DecidableEq α] {c : α} : ∀ {cs : List α}, cs.Nodup → c ∈ cs → (cs.map fun d => if c = d then 1 else 0).sum = 1
  | [], _, h => absurd h List.not_mem_nil
  | d :: cs, hn, h => by
    obtain ⟨h1, h2⟩ := List.nodup_cons.mp hn
    rw [List.map_cons, List.sum_cons]
    by_cases e : c = d
    · subst e
      have z : ∀ (l : List α), c ∉ l → (l.map fun d => if c = d then 1 else 0).sum = 0 := by
        intro l
        induction l with
        | nil => intro _; rfl
        | cons a l ih =>
          intro hh
          rw [List.map_cons, List.sum_cons, if_neg (fun z : c = a => hh (by rw [z]; exact List.mem_cons_self)), ih fun z => hh (List.mem_cons_of_mem _ z)]
      rw [if_pos rfl, z cs h1]
    · rw [if_neg e, sum_one' h2 ((List.mem_cons.mp h).resolve_left e)]
theorem sum_add' {α : Type} (f g : α → Nat) : ∀ l : List α, (l.map fun x => f x + g x).sum = (l.map f).sum + (l.map g).sum
  | [] => rfl
  | a :: l => by
    rw [List.map_cons, List.sum_cons, List.map_cons, List.sum_cons, List.map_cons, List.sum_cons, sum_add' f g l]
    omega
theorem sum_zero' {α : Type} {f : α → Nat} : ∀ {l : List α}, (∀ a ∈ l, f a = 0) → (l.map f).sum = 0
  | [], _ => rfl
  | a :: l, h => by rw [List.map_cons, List.sum_cons, h a List.mem_cons_self, sum_zero' fun b hb => h b (List.mem_cons_of_mem _ hb)]
theorem sum_congr' {α : Type} {f g : α → Nat} {l : List α} (h : ∀ a ∈ l, f a = g a) : (l.map f).sum = (l.map g).sum := by rw [List.map_congr_left h]
theorem sum_cE {cs : List (List Nat × Nat)} (hn : cs.Nodup) : ∀ {ks : List (List Nat × Nat)}, (∀ k ∈ ks, k ∈ cs) → (cs.map fun c => cE ks c).sum = ks.length
  | [], _ => sum_zero' fun _ _ => rfl
  | k :: ks, h => by
    have e : (fun c => cE (k :: ks) c) = fun c => cE ks c + if k = c then 1 else 0 := by
      funext c
      unfold cE
      rw [List.countP_cons]
      congr 1
      by_cases z : k = c
      · rw [if_pos z, if_pos (decide_eq_true z)]
      · rw [if_neg z, if_neg (fun y => z (of_decide_eq_true y))]
    rw [e, sum_add', sum_cE hn fun x hx => h x (List.mem_cons_of_mem _ hx), sum_one' hn (h k List.mem_cons_self)]
    rfl
theorem all_tight {α : Type} {f : α → Nat} {w : Nat} : ∀ {l : List α}, (∀ a ∈ l, w ≤ f a) → (l.map f).sum = l.length * w → ∀ a ∈ l, f a = w
  | [], _, _, a, ha => absurd ha List.not_mem_nil
  | b :: l, h1, h2, a, ha => by
    have hb := h1 b List.mem_cons_self
    have ge : ∀ l : List α, (∀ a ∈ l, w ≤ f a) → l.length * w ≤ (l.map f).sum := by
      intro l
      induction l with
      | nil => intro _; simp
      | cons c l ih =>
        intro h
        rw [List.map_cons, List.sum_cons, List.length_cons, Nat.succ_mul]
        have := ih fun x hx => h x (List.mem_cons_of_mem _ hx)
        have := h c List.mem_cons_self
        omega
    have hl := ge l fun x hx => h1 x (List.mem_cons_of_mem _ hx)
    rw [List.map_cons, List.sum_cons, List.length_cons, Nat.succ_mul] at h2
    rcases List.mem_cons.mp ha with rfl | ha
    · omega
    · exact all_tight (fun x hx => h1 x (List.mem_cons_of_mem _ hx)) (by omega) a ha
/-- the level's number is what it must be -/
theorem Lev.eq {n d s w : Nat} {rows : List (List Nat)} (G : Tab n d rows) (hs : s < d) (h : Lev n s w rows) : n * C (n - 1) s * w = rows.length := by
  have h1 := sum_cE (allE_nodup n s) (edgE_mem G hs)
  rw [List.length_map, sum_congr' (g := fun _ => w) fun e he => h e he] at h1
  rw [← h1, ← allE_len, List.map_const', List.sum_replicate_nat]
/-! the standard tables -/
theorem path_edge {n c d k s : Nat} (hs : s < d) : edgE s (path n d c k).1 = (srt (path n s c k).1, (folL n c (List.range' 0 s) (List.range' 0 n) k).getD ((path n s c k).2 / wd n c s) 0) := by
  unfold edgE path
  have h1 : d = s + (d - s) := by omega
  have e1 := fol_take n c k s (d - s)
  have e2 := fol_take n c k (s + 1) (d - (s + 1))
  rw [← h1] at e1
  rw [show s + 1 + (d - (s + 1)) = d by omega, range'_end, fol_snoc] at e2
  rw [e1]
  congr 1
  have l := fol_len n c (List.range' 0 s) (List.range' 0 n) k
  rw [List.length_range'] at l
  have e3 : (fol n c (List.range' 0 d) (List.range' 0 n) k).1[s]? = some ((folL n c (List.range' 0 s) (List.range' 0 n) k).getD ((fol n c (List.range' 0 s) (List.range' 0 n) k).2 / wd n c s) 0) := by
    have e4 : ((fol n c (List.range' 0 d) (List.range' 0 n) k).1.take (s + 1))[s]? = (fol n c (List.range' 0 d) (List.range' 0 n) k).1[s]? := by
      rw [List.getElem?_take, if_pos (by omega)]
    rw [← e4, e2]
    show (_ ++ [_])[s]? = _
    rw [List.getElem?_append_right (by omega), l, Nat.sub_self]
    rfl
  rw [List.getD_eq_getElem?_getD, e3]
  rfl
theorem std_lev {n d c : Nat} (st : Std n d c) {s : Nat} (hs : s < d) : Lev n s (wd n c s) ((List.range c).map fun k => (path n d c k).1) := by
  have dv := st.dvd s hs
  have w0 := wd_pos dv st.c0
  have dn := st.dn
  have G : Tab n d ((List.range c).map fun k => (path n d c k).1) := fun r hr => by
    obtain ⟨k, hk, rfl⟩ := List.mem_map.mp hr
    exact ⟨path_len n d c k, path_nodup st (List.mem_range.mp hk), path_lt st (List.mem_range.mp hk)⟩
  refine all_tight (f := fun e => cE (((List.range c).map fun k => (path n d c k).1).map (edgE s)) e) (fun e he => ?_) ?_
  · -- at least so many
    obtain ⟨x, hx, he⟩ := List.mem_flatMap.mp he
    obtain ⟨S, hS, rfl⟩ := List.mem_map.mp he
    obtain ⟨g1, g2⟩ := combs_good _ _ _ hS
    have ascS : Asc S := (without_asc n x).sublist g2
    have memS : ∀ y ∈ S, y < n ∧ y ≠ x := fun y hy => by
      have := List.mem_filter.mp (g2.subset hy)
      exact ⟨List.mem_range.mp this.1, by simpa using this.2⟩
    have hxn := List.mem_range.mp hx
    -- the servers outside
    have hL0 : Compl n S ((List.range' 0 n).filter fun y => !decide (y ∈ S)) := ⟨ascS, (asc_range' n 0).filter _, fun y hy => (memS y hy).1, fun y => by
      rw [List.mem_filter, mem_range0]
      simp⟩
    have hxL : x ∈ (List.range' 0 n).filter fun y => !decide (y ∈ S) := (hL0.mem x).mpr ⟨hxn, fun z => (memS x z).2 rfl⟩
    obtain ⟨i, hi⟩ := List.getElem?_of_mem hxL
    have lenL : ((List.range' 0 n).filter fun y => !decide (y ∈ S)).length = n - s := by
      have p : (S ++ (List.range' 0 n).filter fun y => !decide (y ∈ S)).Perm (List.range' 0 n) := by
        refine (List.perm_ext_iff_of_nodup ?_ (asc_nodup (asc_range' n 0))).mpr fun y => ?_
        · refine List.nodup_append.mpr ⟨asc_nodup ascS, (asc_nodup (asc_range' n 0)).filter _, fun a ha b hb e => ?_⟩
          subst e
          exact ((hL0.mem a).mp hb).2 ha
        · rw [List.mem_append, hL0.mem, mem_range0]
          constructor
          · rintro (h | h)
            · exact (memS y h).1
            · exact h.1
          · intro h
            by_cases c : y ∈ S
            · exact .inl c
            · exact .inr ⟨h, c⟩
      have := p.length_eq
      rw [List.length_append, List.length_range', g1] at this
      omega
    have hi2 : i < n - s := by
      rw [← lenL]
      exact (List.getElem?_eq_some_iff.mp hi).1
    have wo : c / C n s = wd n c s * (n - s) := by
      have e := wd_out dv (show s < n by omega)
      have p := C_pos n s (by omega)
      conv => lhs; rw [← e]
      exact Nat.mul_div_cancel _ p
    rw [List.map_map, cE_map, List.countP_eq_length_filter]
    have hd : ∀ k, k < s → n * C (n - 1) k ∣ c := fun k hk => st.dvd k (by omega)
    have hpl : ∀ r, r < wd n c s → Place n c s S (wd n c s * i + r) := fun r hr => ⟨ascS, fun y hy => (memS y hy).1, g1, by
      rw [wo]
      have : wd n c s * (i + 1) ≤ wd n c s * (n - s) := Nat.mul_le_mul_left _ (by omega)
      rw [Nat.mul_add, Nat.mul_one] at this
      omega⟩
    have hlen : ((List.range (wd n c s)).map fun r => (fol n c (List.range' 0 s).reverse S (wd n c s * i + r)).2).length = wd n c s := by
      rw [List.length_map, List.length_range]
    rw [← hlen]
    refine subG_len ?_ fun k hk => ?_
    · rw [List.nodup_iff_pairwise_ne]
      refine List.pairwise_map.mpr ?_
      refine List.Pairwise.imp_of_mem (R := fun a b => a ≠ b) (fun {a b} ha hb hab e => hab ?_) (List.nodup_iff_pairwise_ne.mp List.nodup_range)
      have h1 := (back_fwd st.c0 s S _ (by omega) hd (hpl a (List.mem_range.mp ha))).2.2.1
      have h2 := (back_fwd st.c0 s S _ (by omega) hd (hpl b (List.mem_range.mp hb))).2.2.1
      rw [e] at h1
      rw [h1] at h2
      omega
    · obtain ⟨r, hr, rfl⟩ := List.mem_map.mp hk
      have hr2 := List.mem_range.mp hr
      obtain ⟨b1, b2, b3, b4⟩ := back_fwd st.c0 s S _ (by omega) hd (hpl r hr2)
      refine List.mem_filter.mpr ⟨List.mem_range.mpr b1, decide_eq_true ?_⟩
      show edgE s (path n d c _).1 = _
      rw [path_edge hs]
      unfold path
      rw [b3]
      have ed : (wd n c s * i + r) / wd n c s = i := by
        rw [Nat.mul_add_div w0, Nat.div_eq_of_lt hr2, Nat.add_zero]
      rw [ed, ← b4.free, List.getD_eq_getElem?_getD, hi]
      congr 1
      exact (srt_eq b2).trans (srt_self ascS)
  · rw [sum_cE (allE_nodup n s) (edgE_mem G hs), List.length_map, List.length_map, List.length_range, allE_len, Nat.mul_comm]
    exact (wd_eq dv).symm
end Ef
namespace Ef
/-! ### equal levels share the lists evenly among the live servers -/
def lvL (L r : List Nat) : List Nat := r.filter fun x => decide (x ∈ L)
def ddL (L r : List Nat) : List Nat := r.filter fun x => !decide (x ∈ L)
theorem lvL_app (L a b : List Nat) : lvL L (a ++ b) = lvL L a ++ lvL L b := List.filter_append ..
theorem lvL_perm {L a b : List Nat} (h : a.Perm b) : (lvL L a).Perm (lvL L b) := h.filter _
theorem ddL_perm {L a b : List Nat} (h : a.Perm b) : (ddL L a).Perm (ddL L b) := h.filter _
theorem lv_dd (L : List Nat) : ∀ r : List Nat, (lvL L r ++ ddL L r).Perm r
  | [] => List.Perm.refl _
  | x :: r => by
    unfold lvL ddL
    by_cases c : x ∈ L
    · rw [List.filter_cons_of_pos (by simpa using c), List.filter_cons_of_neg (by simpa using c)]
      exact (lv_dd L r).cons x
    · rw [List.filter_cons_of_neg (by simpa using c), List.filter_cons_of_pos (by simpa using c)]
      exact List.perm_middle.trans ((lv_dd L r).cons x)
/-- where the live server with this number stands -/
theorem at_live (L : List Nat) : ∀ (r : List Nat) (q : Nat), q + 1 ≤ (lvL L r).length → ∃ s x, r[s]? = some x ∧ x ∈ L ∧ (lvL L (r.take s)).length = q ∧ (lvL L r).take (q + 1) = lvL L (r.take s) ++ [x]
  | [], q, h => by
    have : (lvL L []).length = 0 := rfl
    omega
  | y :: r, q, h => by
    by_cases c : y ∈ L
    · have e : lvL L (y :: r) = y :: lvL L r := List.filter_cons_of_pos (by simpa using c)
      cases q with
      | zero =>
        refine ⟨0, y, rfl, c, rfl, ?_⟩
        rw [e]
        rfl
      | succ q =>
        rw [e, List.length_cons] at h
        obtain ⟨s, x, h1, h2, h3, h4⟩ := at_live L r q (by omega)
        have e2 : lvL L (y :: r.take s) = y :: lvL L (r.take s) := List.filter_cons_of_pos (by simpa using c)
        refine ⟨s + 1, x, h1, h2, ?_, ?_⟩
        · rw [List.take_succ_cons, e2, List.length_cons, h3]
        · rw [List.take_succ_cons, e2, e, List.take_succ_cons, h4]
          rfl
    · have e : lvL L (y :: r) = lvL L r := List.filter_cons_of_neg (by simpa using c)
      rw [e] at h
      obtain ⟨s, x, h1, h2, h3, h4⟩ := at_live L r q h
      have e2 : lvL L (y :: r.take s) = lvL L (r.take s) := List.filter_cons_of_neg (by simpa using c)
      refine ⟨s + 1, x, h1, h2, ?_, ?_⟩
      · rw [List.take_succ_cons, e2, h3]
      · rw [List.take_succ_cons, e2, e, h4]
theorem take_one {r : List Nat} {s x : Nat} (h : r[s]? = some x) : r.take (s + 1) = r.take s ++ [x] := by
  rw [List.take_add_one, h]
  rfl
theorem live_uniq {L r : List Nat} {q s s' x x' : Nat} (h1 : r[s]? = some x) (h2 : x ∈ L) (h3 : (lvL L (r.take s)).length = q) (k1 : r[s']? = some x') (k2 : x' ∈ L) (k3 : (lvL L (r.take s')).length = q) : s = s' := by
  have key : ∀ {a b y : Nat}, r[a]? = some y → y ∈ L → (lvL L (r.take a)).length = q → (lvL L (r.take b)).length = q → ¬ a < b := by
    intro a b y g1 g2 g3 g4 hlt
    have e : r.take b = r.take (a + 1) ++ (r.take b).drop (a + 1) := by
      have := List.take_append_drop (a + 1) (r.take b)
      rw [List.take_take, Nat.min_eq_left (by omega)] at this
      exact this.symm
    rw [e, take_one g1, lvL_app, lvL_app, List.length_append, List.length_append] at g4
    have : (lvL L [y]).length = 1 := by
      unfold lvL
      rw [List.filter_cons_of_pos (by simpa using g2)]
      rfl
    omega
  have a := key h1 h2 h3 k3
  have b := key k1 k2 k3 h3
  omega
/-- all sublists -/
def subsA : List Nat → List (List Nat)
  | [] => [[]]
  | x :: r => (subsA r).map (x :: ·) ++ subsA r
theorem subsA_mem : ∀ {l c : List Nat}, c.Sublist l → c ∈ subsA l
  | [], c, h => by
    rw [List.sublist_nil.mp h]
    exact List.mem_singleton.mpr rfl
  | x :: r, c, h => by
    cases h with
    | cons _ h => exact List.mem_append_right _ (subsA_mem h)
    | cons_cons _ h => exact List.mem_append_left _ (List.mem_map.mpr ⟨_, subsA_mem h, rfl⟩)
theorem subsA_good : ∀ {l c : List Nat}, c ∈ subsA l → c.Sublist l
  | [], c, h => by
    rw [List.mem_singleton.mp h]
    exact List.Sublist.refl _
  | x :: r, c, h => by
    rcases List.mem_append.mp h with h | h
    · obtain ⟨d, hd, rfl⟩ := List.mem_map.mp h
      exact (subsA_good hd).cons_cons x
    · exact (subsA_good h).cons x
theorem subsA_nodup : ∀ {l : List Nat}, l.Nodup → (subsA l).Nodup
  | [], _ => List.nodup_cons.mpr ⟨List.not_mem_nil, List.nodup_nil⟩
  | x :: r, h => by
    obtain ⟨h1, h2⟩ := List.nodup_cons.mp h
    refine List.nodup_append.mpr ⟨List.Pairwise.map _ (fun a b hab z => hab (List.cons.inj z).2) (subsA_nodup h2), subsA_nodup h2, fun a ha b hb e => ?_⟩
    obtain ⟨c, _, rfl⟩ := List.mem_map.mp ha
    have := subsA_good hb
    rw [← e] at this
    exact h1 (this.subset List.mem_cons_self)
/-- a row and a pair: the row begins with T but x, and D, and goes on to x -/
def mtB (T : List Nat) (q : Nat) (p : List Nat × Nat) (r : List Nat) : Bool := decide (edgE (q + p.1.length) r = (srt (T.erase p.2 ++ p.1), p.2))
theorem lv_all {L a : List Nat} (h : ∀ x ∈ a, x ∈ L) : lvL L a = a := List.filter_eq_self.mpr fun x hx => by simpa using h x hx
theorem lv_none {L a : List Nat} (h : ∀ x ∈ a, x ∉ L) : lvL L a = [] := List.filter_eq_nil_iff.mpr fun x hx => by simpa using h x hx
theorem dd_all {L a : List Nat} (h : ∀ x ∈ a, x ∉ L) : ddL L a = a := List.filter_eq_self.mpr fun x hx => by simpa using h x hx
theorem dd_none {L a : List Nat} (h : ∀ x ∈ a, x ∈ L) : ddL L a = [] := List.filter_eq_nil_iff.mpr fun x hx => by simpa using h x hx
theorem ddL_app (L a b : List Nat) : ddL L (a ++ b) = ddL L a ++ ddL L b := List.filter_append ..
theorem mt_iff {L T D r : List Nat} {q x : Nat} (hT : Asc T) (hTl : T.length = q + 1) (hTL : ∀ y ∈ T, y ∈ L) (hx : x ∈ T) (hD : Asc D) (hDL : ∀ y ∈ D, y ∉ L) (hs : q + D.length < r.length) :
    mtB T q (D, x) r = true ↔ ∃ s, r[s]? = some x ∧ (lvL L (r.take s)).length = q ∧ srt (lvL L (r.take s) ++ [x]) = T ∧ srt (ddL L (r.take s)) = D := by
  have te : (T.erase x).Perm (T.erase x) := List.Perm.refl _
  have tp : (T.erase x ++ [x]).Perm T := (List.perm_append_singleton x _).trans (List.perm_cons_erase hx).symm
  have tl : (T.erase x).length = q := by
    rw [List.length_erase_of_mem hx]
    omega
  have eL : ∀ y ∈ T.erase x, y ∈ L := fun y hy => hTL y (List.mem_of_mem_erase hy)
  unfold mtB
  rw [decide_eq_true_iff]
  constructor
  · intro h
    have h1 : srt (r.take (q + D.length)) = srt (T.erase x ++ D) := congrArg Prod.fst h
    have h2 : r.getD (q + D.length) 0 = x := congrArg Prod.snd h
    have pm := perm_of_srt h1
    have hxs : r[q + D.length]? = some x := by
      rw [List.getD_eq_getElem?_getD, List.getElem?_eq_getElem hs] at h2
      rw [List.getElem?_eq_getElem hs]
      exact congrArg some h2
    have pl : (lvL L (r.take (q + D.length))).Perm (T.erase x) := by
      have := lvL_perm (L := L) pm
      rw [lvL_app, lv_all eL, lv_none hDL, List.append_nil] at this
      exact this
    have pd : (ddL L (r.take (q + D.length))).Perm D := by
      have := ddL_perm (L := L) pm
      rw [ddL_app, dd_none eL, dd_all hDL, List.nil_append] at this
      exact this
    exact ⟨q + D.length, hxs, by rw [pl.length_eq, tl], (srt_eq ((pl.append_right [x]).trans tp)).trans (srt_self hT), (srt_eq pd).trans (srt_self hD)⟩
  · rintro ⟨s, h1, h2, h3, h4⟩
    have hsl : s < r.length := (List.getElem?_eq_some_iff.mp h1).1
    have pl : (lvL L (r.take s)).Perm (T.erase x) := by
      have p1 : (lvL L (r.take s) ++ [x]).Perm T := (srt_perm _).symm.trans (h3 ▸ List.Perm.refl _)
      have p2 := p1.trans tp.symm
      exact (List.perm_append_right_iff _).mp p2
    have pd : (ddL L (r.take s)).Perm D := (srt_perm _).symm.trans (h4 ▸ List.Perm.refl _)
    have pr : (r.take s).Perm (T.erase x ++ D) := (lv_dd L _).symm.trans (pl.append pd)
    have es : s = q + D.length := by
      have := pr.length_eq
      rw [List.length_take, List.length_append, tl] at this
      omega
    subst es
    unfold edgE
    show (srt (r.take (q + D.length)), r.getD (q + D.length) 0) = _
    rw [srt_eq pr, List.getD_eq_getElem?_getD, h1]
    rfl
/-- the pairs of T -/
def prL (dead T : List Nat) : List (List Nat × Nat) := (subsA dead).flatMap fun D => T.map fun x => (D, x)
theorem prL_nodup {dead T : List Nat} (hd : dead.Nodup) (hT : T.Nodup) : (prL dead T).Nodup := by
  unfold prL
  have key : ∀ l : List (List Nat), l.Nodup → (l.flatMap fun D => T.map fun x => (D, x)).Nodup := by
    intro l
    induction l with
    | nil => intro _; exact List.nodup_nil
    | cons D l ih =>
      intro h
      obtain ⟨h1, h2⟩ := List.nodup_cons.mp h
      rw [List.flatMap_cons]
      refine List.nodup_append.mpr ⟨List.Pairwise.map _ (fun a b hab z => hab (congrArg Prod.snd z)) hT, ih h2, fun a ha b hb e => ?_⟩
      obtain ⟨c, _, rfl⟩ := List.mem_map.mp ha
      obtain ⟨D', hD', hb⟩ := List.mem_flatMap.mp hb
      obtain ⟨c', _, rfl⟩ := List.mem_map.mp hb
      have ed : D = D' := congrArg Prod.fst e
      exact h1 (by rw [ed]; exact hD')
  exact key _ (subsA_nodup hd)
theorem countP_one {α : Type} {p : α → Bool} {a : α} : ∀ {l : List α}, l.Nodup → a ∈ l → (∀ b ∈ l, (p b = true ↔ b = a)) → l.countP p = 1
  | [], _, h, _ => absurd h List.not_mem_nil
  | b :: l, hn, h, hp => by
    obtain ⟨h1, h2⟩ := List.nodup_cons.mp hn
    rw [List.countP_cons]
    by_cases e : b = a
    · subst e
      have z : l.countP p = 0 := List.countP_eq_zero.mpr fun c hc hpc => h1 (((hp c (List.mem_cons_of_mem _ hc)).mp hpc) ▸ hc)
      rw [z, if_pos ((hp b List.mem_cons_self).mpr rfl)]
    · rw [if_neg (fun z => e ((hp b List.mem_cons_self).mp z)), countP_one h2 ((List.mem_cons.mp h).resolve_left fun z => e z.symm) fun c hc => hp c (List.mem_cons_of_mem _ hc)]
theorem swap_sum {α β : Type} (m : α → β → Bool) (rows : List β) : ∀ l : List α, (l.map fun a => rows.countP (m a)).sum = (rows.map fun r => l.countP fun a => m a r).sum
  | [] => (sum_zero' fun _ _ => rfl).symm
  | a :: l => by
    rw [List.map_cons, List.sum_cons, swap_sum m rows l]
    have e : (rows.map fun r => (a :: l).countP fun a => m a r) = rows.map fun r => (l.countP fun a => m a r) + if m a r = true then 1 else 0 := List.map_congr_left fun r _ => List.countP_cons ..
    rw [e, sum_add', Nat.add_comm]
    congr 1
    induction rows with
    | nil => rfl
    | cons r rows ih =>
      rw [List.countP_cons, List.map_cons, List.sum_cons, ih (List.map_congr_left fun r _ => List.countP_cons ..)]
      omega
theorem sum_ind {β : Type} (p : β → Bool) : ∀ rows : List β, (rows.map fun r => if p r = true then 1 else 0).sum = rows.countP p
  | [] => rfl
  | r :: rows => by
    rw [List.map_cons, List.sum_cons, sum_ind p rows, List.countP_cons, Nat.add_comm]
/-- how many rows have this set of first live servers -/
def heldN (L : List Nat) (q : Nat) (rows : List (List Nat)) (T : List Nat) : Nat := rows.countP fun r => decide (srt ((lvL L r).take q) = T)
theorem held_pairs {n d q : Nat} {L dead T : List Nat} {rows : List (List Nat)} (G : Tab n d rows) (hT : Asc T) (hTl : T.length = q + 1) (hTL : ∀ y ∈ T, y ∈ L) (hdead : Asc dead) (hmem : ∀ y, y ∈ dead ↔ y < n ∧ y ∉ L)
    (hd : q + dead.length < d) (hlive : ∀ r ∈ rows, q + 1 ≤ (lvL L r).length) :
    heldN L (q + 1) rows T = ((prL dead T).map fun p => cE (rows.map (edgE (q + p.1.length))) (srt (T.erase p.2 ++ p.1), p.2)).sum := by
  have e1 : ((prL dead T).map fun p => cE (rows.map (edgE (q + p.1.length))) (srt (T.erase p.2 ++ p.1), p.2)) = (prL dead T).map fun p => rows.countP (mtB T q p) := List.map_congr_left fun p _ => cE_map _ _ _
  rw [e1, swap_sum]
  unfold heldN
  rw [← sum_ind]
  refine sum_congr' fun r hr => ?_
  obtain ⟨g1, g2, g3⟩ := G r hr
  obtain ⟨s, x, a1, a2, a3, a4⟩ := at_live L r q (hlive r hr)
  have ndT : T.Nodup := asc_nodup hT
  -- what a pair that fits is
  have fit : ∀ p ∈ prL dead T, (mtB T q p r = true ↔ srt ((lvL L r).take (q + 1)) = T ∧ p = (srt (ddL L (r.take s)), x)) := fun p hp => by
    obtain ⟨D, hD, hp⟩ := List.mem_flatMap.mp hp
    obtain ⟨y, hy, rfl⟩ := List.mem_map.mp hp
    have sD := subsA_good hD
    have ascD : Asc D := hdead.sublist sD
    have hDL : ∀ z ∈ D, z ∉ L := fun z hz => ((hmem z).mp (sD.subset hz)).2
    have hDl := sD.length_le
    rw [mt_iff hT hTl hTL hy ascD hDL (by omega), a4]
    constructor
    · rintro ⟨s', b1, b2, b3, b4⟩
      obtain rfl := live_uniq a1 a2 a3 b1 (hTL y hy) b2
      rw [a1] at b1
      obtain rfl := Option.some.inj b1
      exact ⟨b3, by rw [b4]⟩
    · rintro ⟨b1, b2⟩
      have c1 : D = srt (ddL L (r.take s)) := congrArg Prod.fst b2
      have c2 : y = x := congrArg Prod.snd b2
      subst c2
      exact ⟨s, a1, a3, b1, c1.symm⟩
  by_cases c : srt ((lvL L r).take (q + 1)) = T
  · rw [if_pos (decide_eq_true c)]
    refine (countP_one (prL_nodup (asc_nodup hdead) ndT) (a := (srt (ddL L (r.take s)), x)) ?_ fun p hp => ?_).symm
    · have hxT : x ∈ T := by
        rw [← c, a4]
        exact (srt_perm _).mem_iff.mpr (List.mem_append_right _ (List.mem_singleton.mpr rfl))
      have nd : (ddL L (r.take s)).Nodup := (g2.sublist (List.take_sublist _ _)).filter _
      have sub : (srt (ddL L (r.take s))).Sublist dead := ascSub (srt_asc nd) hdead fun y hy => by
        have h1 := List.mem_filter.mp ((srt_perm _).mem_iff.mp hy)
        exact (hmem y).mpr ⟨g3 y (List.mem_of_mem_take h1.1), by simpa using h1.2⟩
      exact List.mem_flatMap.mpr ⟨_, subsA_mem sub, List.mem_map.mpr ⟨x, hxT, rfl⟩⟩
    · rw [fit p hp]
      exact ⟨fun h => h.2, fun h => ⟨c, h⟩⟩
  · rw [if_neg (fun z => c (of_decide_eq_true z))]
    exact (List.countP_eq_zero.mpr fun p hp h => c ((fit p hp).mp h).1).symm
theorem sum_const {α : Type} (k : Nat) : ∀ l : List α, (l.map fun _ => k).sum = l.length * k
  | [] => by simp
  | a :: l => by rw [List.map_cons, List.sum_cons, sum_const k l, List.length_cons, Nat.succ_mul, Nat.add_comm]
/-- by equal levels every set of live servers holds as many lists -/
theorem held_even {n d q : Nat} {L dead T : List Nat} {rows : List (List Nat)} {w : Nat → Nat} (G : Tab n d rows) (hT : Asc T) (hTl : T.length = q + 1) (hTL : ∀ y ∈ T, y ∈ L) (hLn : ∀ y ∈ L, y < n) (hdead : Asc dead) (hmem : ∀ y, y ∈ dead ↔ y < n ∧ y ∉ L)
    (hd : q + dead.length < d) (hlive : ∀ r ∈ rows, q + 1 ≤ (lvL L r).length) (lev : ∀ s, s ≤ q + dead.length → Lev n s (w s) rows) :
    heldN L (q + 1) rows T = ((subsA dead).map fun D => (q + 1) * w (q + D.length)).sum := by
  rw [held_pairs G hT hTl hTL hdead hmem hd hlive]
  have e1 : ((prL dead T).map fun p => cE (rows.map (edgE (q + p.1.length))) (srt (T.erase p.2 ++ p.1), p.2)) = (prL dead T).map fun p => w (q + p.1.length) := List.map_congr_left fun p hp => by
    obtain ⟨D, hD, hp⟩ := List.mem_flatMap.mp hp
    obtain ⟨y, hy, rfl⟩ := List.mem_map.mp hp
    have sD := subsA_good hD
    have hDl := sD.length_le
    have pm := srt_perm (T.erase y ++ D)
    have ndT := asc_nodup hT
    have hyE : y ∉ T.erase y := fun z => (List.Nodup.mem_erase_iff ndT).mp z |>.1 rfl
    have nd : (T.erase y ++ D).Nodup := List.nodup_append.mpr ⟨ndT.sublist (List.erase_sublist), asc_nodup (hdead.sublist sD), fun a ha b hb e => by
      subst e
      exact ((hmem a).mp (sD.subset hb)).2 (hTL a (List.mem_of_mem_erase ha))⟩
    refine lev (q + D.length) (by omega) _ (allE_mem (hLn y (hTL y hy)) ?_ (srt_asc nd) fun z hz => ?_)
    · rw [pm.length_eq, List.length_append, List.length_erase_of_mem hy]
      omega
    · rcases List.mem_append.mp (pm.mem_iff.mp hz) with hz | hz
      · exact ⟨hLn z (hTL z (List.mem_of_mem_erase hz)), fun e => hyE (by rw [show y = z from e.symm]; rw [show y = z from e.symm] at hz; exact hz)⟩
      · have := (hmem z).mp (sD.subset hz)
        exact ⟨this.1, fun e => this.2 (by rw [show z = y from e]; exact hTL y hy)⟩
  rw [e1]
  unfold prL
  have key : ∀ l : List (List Nat), ((l.flatMap fun D => T.map fun x => (D, x)).map fun p => w (q + p.1.length)).sum = (l.map fun D => (q + 1) * w (q + D.length)).sum := by
    intro l
    induction l with
    | nil => rfl
    | cons D l ih =>
      rw [List.flatMap_cons, List.map_append, List.sum_append, List.map_cons, List.sum_cons, ih, List.map_map]
      congr 1
      show (T.map fun _ => w (q + D.length)).sum = _
      rw [sum_const, hTl]
  exact key _
end Ef
namespace Ef
/-! ### the shares of sets and of servers -/
theorem combs_one {cs : List (List Nat)} {k : List Nat} (hn : cs.Nodup) (h : k ∈ cs) : cs.countP (fun T => decide (k = T)) = 1 :=
  countP_one hn h fun b _ => by
    rw [decide_eq_true_iff]
    exact ⟨fun e => e.symm, fun e => e.symm⟩
/-- the set of the first live servers is one of the sets -/
theorem first_mem {n d q : Nat} {L : List Nat} {rows : List (List Nat)} (G : Tab n d rows) (aL : Asc L) (hlive : ∀ r ∈ rows, q ≤ (lvL L r).length) : ∀ r ∈ rows, srt ((lvL L r).take q) ∈ combs L q := fun r hr => by
  obtain ⟨_, g2, _⟩ := G r hr
  have nd : ((lvL L r).take q).Nodup := (g2.filter _).sublist (List.take_sublist _ _)
  have pm := srt_perm ((lvL L r).take q)
  have hl : (srt ((lvL L r).take q)).length = q := by
    rw [pm.length_eq, List.length_take]
    have := hlive r hr
    omega
  have := combs_mem L _ (ascSub (srt_asc nd) aL fun y hy => by
    have h1 := List.mem_filter.mp (List.mem_of_mem_take (pm.mem_iff.mp hy))
    exact of_decide_eq_true h1.2)
  rw [hl] at this
  exact this
theorem held_total {n d q : Nat} {L : List Nat} {rows : List (List Nat)} (G : Tab n d rows) (aL : Asc L) (hlive : ∀ r ∈ rows, q ≤ (lvL L r).length) : ((combs L q).map fun T => heldN L q rows T).sum = rows.length := by
  have e : ((combs L q).map fun T => heldN L q rows T) = (combs L q).map fun T => rows.countP ((fun T r => decide (srt ((lvL L r).take q) = T)) T) := rfl
  rw [e, swap_sum, sum_congr' (g := fun _ => 1) fun r hr => combs_one (combsNodup L q (asc_nodup aL)) (first_mem G aL hlive r hr), sum_const, Nat.mul_one]
/-- what there is to know of a live set and a factor -/
structure Live (n d q : Nat) (L : List Nat) (rows : List (List Nat)) : Prop where
  tab : Tab n d rows
  asc : Asc L
  lt : ∀ y ∈ L, y < n
  q1 : 1 ≤ q
  qL : q ≤ L.length
  fit : q + (n - L.length) ≤ d
  lev : ∀ s, s < q + (n - L.length) → ∃ w, Lev n s w rows
def deadL (n : Nat) (L : List Nat) : List Nat := (List.range' 0 n).filter fun y => !decide (y ∈ L)
theorem dead_mem {n : Nat} {L : List Nat} (y : Nat) : y ∈ deadL n L ↔ y < n ∧ y ∉ L := by
  unfold deadL
  rw [List.mem_filter, mem_range0]
  simp
theorem dead_asc (n : Nat) (L : List Nat) : Asc (deadL n L) := (asc_range' n 0).filter _
theorem live_dead {n : Nat} {L : List Nat} (aL : Asc L) (hL : ∀ y ∈ L, y < n) : L.length + (deadL n L).length = n := by
  have p : (L ++ deadL n L).Perm (List.range' 0 n) := by
    refine (List.perm_ext_iff_of_nodup ?_ (asc_nodup (asc_range' n 0))).mpr fun y => ?_
    · refine List.nodup_append.mpr ⟨asc_nodup aL, asc_nodup (dead_asc n L), fun a ha b hb e => ?_⟩
      subst e
      exact ((dead_mem a).mp hb).2 ha
    · rw [List.mem_append, dead_mem, mem_range0]
      constructor
      · rintro (h | h)
        · exact hL y h
        · exact h.1
      · intro h
        by_cases c : y ∈ L
        · exact .inl c
        · exact .inr ⟨h, c⟩
  have := p.length_eq
  rw [List.length_append, List.length_range'] at this
  exact this
/-- every list has enough live servers -/
theorem enough {n d : Nat} {L : List Nat} {rows : List (List Nat)} (G : Tab n d rows) (aL : Asc L) (hL : ∀ y ∈ L, y < n) {q : Nat} (h : q + (n - L.length) ≤ d) : ∀ r ∈ rows, q ≤ (lvL L r).length := fun r hr => by
  obtain ⟨g1, g2, g3⟩ := G r hr
  have p := (lv_dd L r).length_eq
  rw [List.length_append, g1] at p
  have h2 : (ddL L r).length ≤ (deadL n L).length := subG_len (g2.filter _) fun y hy => by
    have h1 := List.mem_filter.mp hy
    exact (dead_mem y).mpr ⟨g3 y h1.1, by simpa using h1.2⟩
  have := live_dead aL hL
  omega
theorem Live.enough {n d q : Nat} {L : List Nat} {rows : List (List Nat)} (h : Live n d q L rows) : ∀ r ∈ rows, q ≤ (lvL L r).length := Ef.enough h.tab h.asc h.lt h.fit
theorem Live.const {n d q : Nat} {L : List Nat} {rows : List (List Nat)} (h : Live n d q L rows) : ∃ F, ∀ T ∈ combs L q, heldN L q rows T = F := by
  obtain ⟨p, rfl⟩ : ∃ p, q = p + 1 := ⟨q - 1, by have := h.q1; omega⟩
  have ld := live_dead h.asc h.lt
  have hf := h.fit
  have hq := h.qL
  let w : Nat → Nat := fun s => if hs : s < p + 1 + (n - L.length) then (h.lev s hs).choose else 0
  refine ⟨((subsA (deadL n L)).map fun D => (p + 1) * w (p + D.length)).sum, fun T hT => ?_⟩
  obtain ⟨g1, g2⟩ := combs_good L (p + 1) T hT
  refine held_even h.tab (h.asc.sublist g2) g1 (fun y hy => g2.subset hy) h.lt (dead_asc n L) dead_mem (by omega) h.enough fun s hs => ?_
  have hs2 : s < p + 1 + (n - L.length) := by omega
  have e : w s = (h.lev s hs2).choose := dif_pos hs2
  rw [e]
  exact (h.lev s hs2).choose_spec
/-- every set's share -/
theorem Live.held {n d q : Nat} {L : List Nat} {rows : List (List Nat)} (h : Live n d q L rows) : ∀ T ∈ combs L q, heldN L q rows T * C L.length q = rows.length := by
  obtain ⟨F, hF⟩ := h.const
  have t := held_total h.tab h.asc h.enough
  rw [sum_congr' (g := fun _ => F) hF, sum_const, combsLen] at t
  intro T hT
  rw [hF T hT, Nat.mul_comm]
  exact t
/-- how many lists have a server among the first live ones -/
def ldN (L : List Nat) (q : Nat) (rows : List (List Nat)) (y : Nat) : Nat := rows.countP fun r => decide (y ∈ (lvL L r).take q)
theorem combs_with : ∀ (l : List Nat) (k y : Nat), l.Nodup → y ∈ l → (combs l (k + 1)).countP (fun T => decide (y ∈ T)) = C (l.length - 1) k
  | [], k, y, _, h => absurd h List.not_mem_nil
  | x :: r, k, y, hn, h => by
    obtain ⟨h1, h2⟩ := List.nodup_cons.mp hn
    show ((combs r k).map (x :: ·) ++ combs r (k + 1)).countP _ = C (r.length + 1 - 1) k
    rw [List.countP_append, List.countP_map, Nat.add_sub_cancel]
    by_cases e : y = x
    · subst e
      have a1 : (combs r k).countP ((fun T => decide (y ∈ T)) ∘ fun T => y :: T) = (combs r k).length := List.countP_eq_length.mpr fun T _ => by simp
      have a2 : (combs r (k + 1)).countP (fun T => decide (y ∈ T)) = 0 := List.countP_eq_zero.mpr fun T hT z => h1 ((combs_good r (k + 1) T hT).2.subset (of_decide_eq_true z))
      rw [a1, a2, combsLen]
      rfl
    · have hy : y ∈ r := (List.mem_cons.mp h).resolve_left e
      have rp := List.length_pos_of_mem hy
      have a1 : (combs r k).countP ((fun T => decide (y ∈ T)) ∘ fun T => x :: T) = (combs r k).countP fun T => decide (y ∈ T) := List.countP_congr fun T _ => by simp [e]
      rw [a1, combs_with r k y h2 hy]
      cases k with
      | zero =>
        rw [combs_zero]
        show 0 + C (r.length - 1) 0 = C r.length 0
        rw [C_zero, C_zero]
      | succ k =>
        rw [combs_with r k y h2 hy]
        obtain ⟨m, em⟩ : ∃ m, r.length = m + 1 := ⟨r.length - 1, by omega⟩
        rw [em]
        rfl
theorem Live.load {n d q : Nat} {L : List Nat} {rows : List (List Nat)} (h : Live n d q L rows) : ∀ y ∈ L, ldN L q rows y * L.length = rows.length * q := fun y hy => by
  obtain ⟨p, rfl⟩ : ∃ p, q = p + 1 := ⟨q - 1, by have := h.q1; omega⟩
  obtain ⟨F, hF⟩ := h.const
  have hq := h.qL
  have t := held_total h.tab h.asc h.enough
  rw [sum_congr' (g := fun _ => F) hF, sum_const, combsLen] at t
  -- the sets with this server
  have e1 : ldN L (p + 1) rows y = (((combs L (p + 1)).filter fun T => decide (y ∈ T)).map fun T => heldN L (p + 1) rows T).sum := by
    have e2 : (((combs L (p + 1)).filter fun T => decide (y ∈ T)).map fun T => heldN L (p + 1) rows T) = ((combs L (p + 1)).filter fun T => decide (y ∈ T)).map fun T => rows.countP ((fun T r => decide (srt ((lvL L r).take (p + 1)) = T)) T) := rfl
    rw [e2, swap_sum]
    unfold ldN
    rw [← sum_ind]
    refine sum_congr' fun r hr => ?_
    have hm := first_mem h.tab h.asc h.enough r hr
    have nd := (combsNodup L (p + 1) (asc_nodup h.asc)).filter fun T => decide (y ∈ T)
    have pm := srt_perm ((lvL L r).take (p + 1))
    by_cases c : y ∈ (lvL L r).take (p + 1)
    · rw [if_pos (decide_eq_true c)]
      exact (combs_one nd (List.mem_filter.mpr ⟨hm, decide_eq_true (pm.mem_iff.mpr c)⟩)).symm
    · rw [if_neg (fun z => c (of_decide_eq_true z))]
      refine (List.countP_eq_zero.mpr fun T hT z => c ?_).symm
      have hT2 := of_decide_eq_true (List.mem_filter.mp hT).2
      rw [← of_decide_eq_true z] at hT2
      exact pm.mem_iff.mp hT2
  have e3 : ((combs L (p + 1)).filter fun T => decide (y ∈ T)).length = C (L.length - 1) p := by
    rw [← List.countP_eq_length_filter]
    exact combs_with L p y (asc_nodup h.asc) hy
  rw [e1, sum_congr' (g := fun _ => F) fun T hT => hF T (List.mem_filter.mp hT).1, sum_const, e3, ← t]
  have e4 := edge_alt2 (n := L.length) (i := p) (by omega)
  rw [Nat.mul_right_comm, Nat.mul_comm (C (L.length - 1) p) L.length, ← e4, Nat.mul_right_comm]
/-! what the levels do not tell: the order of the rows, the names of the servers -/
theorem Lev.perm {n s w : Nat} {rows rows' : List (List Nat)} (p : rows'.Perm rows) (h : Lev n s w rows) : Lev n s w rows' := fun e he => (cE_perm (p.map _) e).trans (h e he)
theorem Tab.perm {n d : Nat} {rows rows' : List (List Nat)} (p : rows'.Perm rows) (h : Tab n d rows) : Tab n d rows' := fun r hr => h r (p.mem_iff.mp hr)
/-- servers renamed -/
structure Names (n : Nat) (f g : Nat → Nat) : Prop where
  fn : ∀ x, x < n → f x < n
  gn : ∀ x, x < n → g x < n
  gf : ∀ x, x < n → g (f x) = x
  fg : ∀ x, x < n → f (g x) = x
theorem names_of {n : Nat} {ns : List Nat} (p : ns.Perm (List.range' 0 n)) : Names n (fun x => ns.getD x 0) (fun y => ns.idxOf y) := by
  have hl : ns.length = n := by
    rw [p.length_eq, List.length_range']
  have nd : ns.Nodup := p.nodup_iff.mpr (asc_nodup (asc_range' n 0))
  have at_ : ∀ x, x < n → ns[x]? = some (ns.getD x 0) := fun x hx => getD_of (by omega)
  have mem : ∀ y, y < n → y ∈ ns := fun y hy => p.mem_iff.mpr (mem_range0.mpr hy)
  refine ⟨fun x hx => mem_range0.mp (p.mem_iff.mp (List.mem_of_getElem? (at_ x hx))), fun x hx => ?_, fun x hx => ?_, fun x hx => ?_⟩
  · have := List.idxOf_lt_length_of_mem (mem x hx)
    omega
  · have h1 := at_ x hx
    have h2 := idx_at (List.mem_of_getElem? h1)
    exact nodup_inj nd h2 h1
  · show ns.getD (ns.idxOf x) 0 = x
    rw [List.getD_eq_getElem?_getD, idx_at (mem x hx)]
    rfl
theorem Names.inj {n : Nat} {f g : Nat → Nat} (N : Names n f g) {a b : Nat} (ha : a < n) (hb : b < n) (e : f a = f b) : a = b := by
  rw [← N.gf a ha, ← N.gf b hb, e]
theorem Names.tab {n d : Nat} {f g : Nat → Nat} {rows : List (List Nat)} (N : Names n f g) (h : Tab n d rows) : Tab n d (rows.map fun r => r.map f) := fun r hr => by
  obtain ⟨r0, hr0, rfl⟩ := List.mem_map.mp hr
  obtain ⟨h1, h2, h3⟩ := h r0 hr0
  refine ⟨by rw [List.length_map]; exact h1, ?_, fun x hx => ?_⟩
  · refine List.pairwise_map.mpr (List.Pairwise.imp_of_mem (fun {a b} ha hb hab e => hab (N.inj (h3 a ha) (h3 b hb) e)) h2)
  · obtain ⟨y, hy, rfl⟩ := List.mem_map.mp hx
    exact N.fn y (h3 y hy)
theorem map_back {n : Nat} {f g : Nat → Nat} {l : List Nat} (hl : ∀ x ∈ l, x < n) (h : ∀ x, x < n → g (f x) = x) : (l.map f).map g = l := by
  rw [List.map_map]
  conv => rhs; rw [← List.map_id l]
  exact List.map_congr_left fun x hx => h x (hl x hx)
theorem Names.lev {n d s w : Nat} {f g : Nat → Nat} {rows : List (List Nat)} (N : Names n f g) (G : Tab n d rows) (hs : s < d) (h : Lev n s w rows) : Lev n s w (rows.map fun r => r.map f) := fun e he => by
  obtain ⟨x, hx, he⟩ := List.mem_flatMap.mp he
  obtain ⟨S, hS, rfl⟩ := List.mem_map.mp he
  obtain ⟨g1, g2⟩ := combs_good _ _ _ hS
  have hxn := List.mem_range.mp hx
  have memS : ∀ y ∈ S, y < n ∧ y ≠ x := fun y hy => by
    have := List.mem_filter.mp (g2.subset hy)
    exact ⟨List.mem_range.mp this.1, by simpa using this.2⟩
  have ascS : Asc S := (without_asc n x).sublist g2
  have hin : (srt (S.map g), g x) ∈ allE n s := by
    have pm := srt_perm (S.map g)
    have nd : (S.map g).Nodup := List.pairwise_map.mpr (List.Pairwise.imp_of_mem (fun {a b} ha hb hab e => hab (by rw [← N.fg a (memS a ha).1, ← N.fg b (memS b hb).1, e])) (asc_nodup ascS))
    refine allE_mem (N.gn x hxn) (by rw [pm.length_eq, List.length_map, g1]) (srt_asc nd) fun y hy => ?_
    obtain ⟨z, hz, rfl⟩ := List.mem_map.mp (pm.mem_iff.mp hy)
    exact ⟨N.gn z (memS z hz).1, fun e => (memS z hz).2 (by rw [← N.fg z (memS z hz).1, ← N.fg x hxn, e])⟩
  rw [← h _ hin, List.map_map, cE_map, cE_map]
  refine List.countP_congr fun r hr => ?_
  obtain ⟨h1, h2, h3⟩ := G r hr
  have hlt : s < r.length := by omega
  rw [decide_eq_true_iff, decide_eq_true_iff]
  have ex : (r.map f).getD s 0 = f (r.getD s 0) := by
    rw [List.getD_eq_getElem?_getD, List.getD_eq_getElem?_getD, List.getElem?_map, List.getElem?_eq_getElem hlt]
    rfl
  have hrs : r.getD s 0 < n := by
    rw [List.getD_eq_getElem?_getD, List.getElem?_eq_getElem hlt]
    exact h3 _ (List.getElem_mem _)
  have ht : ∀ y ∈ r.take s, y < n := fun y hy => h3 y (List.mem_of_mem_take hy)
  show edgE s (r.map f) = (S, x) ↔ edgE s r = (srt (S.map g), g x)
  unfold edgE
  rw [ex, ← List.map_take]
  constructor
  · intro e
    have e1 : srt ((r.take s).map f) = S := congrArg Prod.fst e
    have e2 : f (r.getD s 0) = x := congrArg Prod.snd e
    have p1 : ((r.take s).map f).Perm S := (srt_perm _).symm.trans (e1 ▸ List.Perm.refl _)
    have p2 := p1.map g
    rw [map_back ht N.gf] at p2
    rw [srt_eq p2, ← e2, N.gf _ hrs]
  · intro e
    have e1 : srt (r.take s) = srt (S.map g) := congrArg Prod.fst e
    have e2 : r.getD s 0 = g x := congrArg Prod.snd e
    have p2 := (perm_of_srt e1).map f
    rw [map_back (fun y hy => (memS y hy).1) N.fg] at p2
    rw [srt_eq p2, srt_self ascS, e2, N.fg x hxn]
end Ef
namespace Ef
/-! ### even on all live sets, then level -/
/-- for all live sets with at most f servers missing, all sets of 1 to k live servers hold equally many lists -/
def EvenOn (n f k : Nat) (rows : List (List Nat)) : Prop := ∀ L, Asc L → (∀ y ∈ L, y < n) → n ≤ L.length + f → ∀ q, 1 ≤ q → q ≤ k → q ≤ L.length → ∃ F, ∀ T ∈ combs L q, heldN L q rows T = F
def lenS : Nat → List Nat
  | 0 => [0]
  | m + 1 => (lenS m).map (· + 1) ++ lenS m
theorem lenS_top : ∀ m, m ∈ lenS m
  | 0 => List.mem_singleton.mpr rfl
  | m + 1 => List.mem_append_left _ (List.mem_map.mpr ⟨m, lenS_top m, rfl⟩)
theorem sum_lt {α : Type} {f g : α → Nat} : ∀ {l : List α} {a : α}, (∀ b ∈ l, f b ≤ g b) → a ∈ l → f a < g a → (l.map f).sum < (l.map g).sum
  | [], _, _, h, _ => absurd h List.not_mem_nil
  | b :: l, a, h, ha, hlt => by
    have le : ∀ l : List α, (∀ b ∈ l, f b ≤ g b) → (l.map f).sum ≤ (l.map g).sum := by
      intro l
      induction l with
      | nil => intro _; exact Nat.le_refl _
      | cons c l ih =>
        intro h
        rw [List.map_cons, List.sum_cons, List.map_cons, List.sum_cons]
        have := ih fun x hx => h x (List.mem_cons_of_mem _ hx)
        have := h c List.mem_cons_self
        omega
    rw [List.map_cons, List.sum_cons, List.map_cons, List.sum_cons]
    have h1 := le l fun x hx => h x (List.mem_cons_of_mem _ hx)
    have h2 := h b List.mem_cons_self
    rcases List.mem_cons.mp ha with rfl | ha
    · omega
    · have := sum_lt (fun x hx => h x (List.mem_cons_of_mem _ hx)) ha hlt
      omega
def phi (m t q : Nat) (w : Nat → Nat) (B : Nat) : Nat := ((lenS m).map fun l => if l < m then t * w (q + l) else B).sum
theorem phi_lt {m t q : Nat} {w : Nat → Nat} {B B' : Nat} (h : B < B') : phi m t q w B < phi m t q w B' := by
  unfold phi
  refine sum_lt (a := m) (fun b _ => ?_) (lenS_top m) ?_
  · by_cases c : b < m
    · rw [if_pos c, if_pos c]
      exact Nat.le_refl _
    · rw [if_neg c, if_neg c]
      omega
  · rw [if_neg (Nat.lt_irrefl _), if_neg (Nat.lt_irrefl _)]
    exact h
theorem phi_inj {m t q : Nat} {w : Nat → Nat} {B B' : Nat} (h : phi m t q w B = phi m t q w B') : B = B' := by
  rcases Nat.lt_trichotomy B B' with c | c | c
  · have := phi_lt (m := m) (t := t) (q := q) (w := w) c
    omega
  · exact c
  · have := phi_lt (m := m) (t := t) (q := q) (w := w) c
    omega
theorem allE_back {n s : Nat} {e : List Nat × Nat} (h : e ∈ allE n s) : e.2 < n ∧ e.1.length = s ∧ Asc e.1 ∧ ∀ y ∈ e.1, y < n ∧ y ≠ e.2 := by
  unfold allE at h
  obtain ⟨x, hx, h⟩ := List.mem_flatMap.mp h
  obtain ⟨c, hc, rfl⟩ := List.mem_map.mp h
  obtain ⟨g1, g2⟩ := combs_good _ _ c hc
  refine ⟨List.mem_range.mp hx, g1, (without_asc n x).sublist g2, fun y hy => ?_⟩
  have := g2.subset hy
  unfold without at this
  obtain ⟨h1, h2⟩ := List.mem_filter.mp this
  exact ⟨List.mem_range.mp h1, by simpa using h2⟩
/-- an edge of a set T of live servers and of dead ones D -/
theorem edge_in {n q : Nat} {L dead T D : List Nat} {y : Nat} (hT : Asc T) (hTl : T.length = q + 1) (hTL : ∀ y ∈ T, y ∈ L) (hLn : ∀ y ∈ L, y < n) (hdead : Asc dead) (hmem : ∀ y, y ∈ dead ↔ y < n ∧ y ∉ L) (sD : D.Sublist dead) (hy : y ∈ T) : (srt (T.erase y ++ D), y) ∈ allE n (q + D.length) := by
  have pm := srt_perm (T.erase y ++ D)
  have ndT := asc_nodup hT
  have hyE : y ∉ T.erase y := fun z => (List.Nodup.mem_erase_iff ndT).mp z |>.1 rfl
  have nd : (T.erase y ++ D).Nodup := List.nodup_append.mpr ⟨ndT.sublist (List.erase_sublist), asc_nodup (hdead.sublist sD), fun a ha b hb e => by
    subst e
    exact ((hmem a).mp (sD.subset hb)).2 (hTL a (List.mem_of_mem_erase ha))⟩
  refine allE_mem (hLn y (hTL y hy)) ?_ (srt_asc nd) fun z hz => ?_
  · rw [pm.length_eq, List.length_append, List.length_erase_of_mem hy]
    omega
  · rcases List.mem_append.mp (pm.mem_iff.mp hz) with hz | hz
    · exact ⟨hLn z (hTL z (List.mem_of_mem_erase hz)), fun e => hyE (by rw [show y = z from e.symm]; rw [show y = z from e.symm] at hz; exact hz)⟩
    · have := (hmem z).mp (sD.subset hz)
      exact ⟨this.1, fun e => this.2 (by rw [show z = y from e]; exact hTL y hy)⟩
theorem subsA_lens : ∀ l : List Nat, ((subsA l).map List.length).Perm (lenS l.length)
  | [] => List.Perm.refl _
  | x :: r => by
    have ih := subsA_lens r
    show (((subsA r).map (x :: ·) ++ subsA r).map List.length).Perm ((lenS r.length).map (· + 1) ++ lenS r.length)
    rw [List.map_append, List.map_map]
    refine List.Perm.append ?_ ih
    have : (List.length ∘ fun y : List Nat => x :: y) = (fun l => l + 1) ∘ List.length := rfl
    rw [this, ← List.map_map]
    exact ih.map _
theorem sum_perm {a b : List Nat} (h : a.Perm b) : a.sum = b.sum := h.sum_nat
/-- the top level tells what is left -/
theorem held_top {n d q : Nat} {L dead T : List Nat} {rows : List (List Nat)} {w : Nat → Nat} (G : Tab n d rows) (hT : Asc T) (hTl : T.length = q + 1) (hTL : ∀ y ∈ T, y ∈ L) (hLn : ∀ y ∈ L, y < n) (hdead : Asc dead) (hmem : ∀ y, y ∈ dead ↔ y < n ∧ y ∉ L)
    (hd : q + dead.length < d) (hlive : ∀ r ∈ rows, q + 1 ≤ (lvL L r).length) (lev : ∀ s, s < q + dead.length → Lev n s (w s) rows) :
    heldN L (q + 1) rows T = phi dead.length (q + 1) q w ((T.map fun x => cE (rows.map (edgE (q + dead.length))) (srt (T.erase x ++ dead), x)).sum) := by
  rw [held_pairs G hT hTl hTL hdead hmem hd hlive]
  generalize hB : (T.map fun x => cE (rows.map (edgE (q + dead.length))) (srt (T.erase x ++ dead), x)).sum = B
  have key : ∀ l : List (List Nat), (∀ D ∈ l, D.Sublist dead) → ((l.flatMap fun D => T.map fun x => (D, x)).map fun p => cE (rows.map (edgE (q + p.1.length))) (srt (T.erase p.2 ++ p.1), p.2)).sum = (l.map fun D => if D.length < dead.length then (q + 1) * w (q + D.length) else B).sum := by
    intro l
    induction l with
    | nil => intro _; rfl
    | cons D l ih =>
      intro hl
      have sD := hl D List.mem_cons_self
      rw [List.flatMap_cons, List.map_append, List.sum_append, List.map_cons, List.sum_cons, ih fun D' h' => hl D' (List.mem_cons_of_mem _ h'), List.map_map]
      congr 1
      by_cases c : D.length < dead.length
      · rw [if_pos c]
        show (T.map fun x => cE (rows.map (edgE (q + D.length))) (srt (T.erase x ++ D), x)).sum = _
        rw [sum_congr' (g := fun _ => w (q + D.length)) fun y hy => lev (q + D.length) (by omega) _ (edge_in hT hTl hTL hLn hdead hmem sD hy), sum_const, hTl]
      · have : D = dead := sD.eq_of_length_le (by omega)
        subst this
        rw [if_neg c, ← hB]
        rfl
  unfold prL
  rw [key _ fun D hD => subsA_good hD]
  unfold phi
  have e : ((subsA dead).map fun D => if D.length < dead.length then (q + 1) * w (q + D.length) else B) = ((subsA dead).map List.length).map fun l => if l < dead.length then (q + 1) * w (q + l) else B := by
    rw [List.map_map]
    rfl
  rw [e]
  exact sum_perm ((subsA_lens dead).map _)
theorem even_lev {n d f k : Nat} {rows : List (List Nat)} (G : Tab n d rows) (hf : 1 ≤ f) (hk : 1 ≤ k) (hd : min n (f + k) ≤ d) (E : EvenOn n f k rows) : ∀ s, s < min n (f + k) → ∃ w, Lev n s w rows := by
  intro s
  induction s using Nat.strongRecOn with
  | _ s ih =>
    intro hs
    let w : Nat → Nat := fun i => if h : i < s then (ih i h (by omega)).choose else 0
    have hw : ∀ i, i < s → Lev n i (w i) rows := fun i hi => by
      have e : w i = (ih i hi (by omega)).choose := dif_pos hi
      rw [e]
      exact (ih i hi (by omega)).choose_spec
    obtain ⟨m, q, hmq, hmf, hqk, hq0⟩ : ∃ m q : Nat, m + q = s ∧ m ≤ f ∧ q + 1 ≤ k ∧ (s ≠ 0 → q + 1 ≤ s) := by
      by_cases c : s = 0
      · exact ⟨0, 0, by omega, by omega, by omega, fun z => absurd c z⟩
      · by_cases c2 : s + 1 ≤ k + 1
        · exact ⟨1, s - 1, by omega, by omega, by omega, fun _ => by omega⟩
        · exact ⟨s + 1 - k, k - 1, by omega, by omega, by omega, fun _ => by omega⟩
    let g : List Nat → Nat → Nat := fun S x => cE (rows.map (edgE s)) (srt (S.erase x), x)
    have key : ∀ S T : List Nat, Asc S → S.length = s + 1 → (∀ x ∈ S, x < n) → Asc T → T.length = q + 1 → (∀ x ∈ T, x ∈ S) → phi m (q + 1) q w (T.map (g S)).sum * C (n - m) (q + 1) = rows.length := by
      intro S T aS lS hS aT lT hT
      let dead := S.filter fun x => !decide (x ∈ T)
      have adead : Asc dead := aS.filter _
      have mdead : ∀ y, y ∈ dead ↔ y ∈ S ∧ y ∉ T := fun y => by
        show y ∈ S.filter _ ↔ _
        rw [List.mem_filter]
        simp
      have ps : (T ++ dead).Perm S := by
        refine (List.perm_ext_iff_of_nodup ?_ (asc_nodup aS)).mpr fun y => ?_
        · refine List.nodup_append.mpr ⟨asc_nodup aT, asc_nodup adead, fun a ha b hb e => ?_⟩
          subst e
          exact ((mdead a).mp hb).2 ha
        · rw [List.mem_append, mdead]
          constructor
          · rintro (h | h)
            · exact hT y h
            · exact h.1
          · intro h
            by_cases c : y ∈ T
            · exact .inl c
            · exact .inr ⟨h, c⟩
      have ld : dead.length = m := by
        have := ps.length_eq
        rw [List.length_append] at this
        omega
      let L := deadL n dead
      have aL : Asc L := dead_asc n dead
      have mL : ∀ y, y ∈ L ↔ y < n ∧ y ∉ dead := dead_mem
      have hL : ∀ y ∈ L, y < n := fun y hy => ((mL y).mp hy).1
      have lL : L.length = n - m := by
        have := live_dead adead fun y hy => hS y ((mdead y).mp hy).1
        show (deadL n dead).length = _
        omega
      have hTL : ∀ y ∈ T, y ∈ L := fun y hy => (mL y).mpr ⟨hS y (hT y hy), fun z => ((mdead y).mp z).2 hy⟩
      have hmem : ∀ y, y ∈ dead ↔ y < n ∧ y ∉ L := fun y => by
        rw [mL]
        constructor
        · intro h
          exact ⟨hS y ((mdead y).mp h).1, fun z => z.2 h⟩
        · rintro ⟨h1, h2⟩
          exact Classical.byContradiction fun c => h2 ⟨h1, c⟩
      have hqL : q + 1 ≤ L.length := by
        rw [← lT]
        exact subG_len (asc_nodup aT) hTL
      have en := enough G aL hL (q := q + 1) (by omega)
      obtain ⟨F, hF⟩ := E L aL hL (by omega) (q + 1) (by omega) hqk hqL
      have tot := held_total G aL en
      rw [sum_congr' (g := fun _ => F) hF, sum_const, combsLen, lL] at tot
      have hTc : T ∈ combs L (q + 1) := by
        rw [← lT]
        exact combs_mem L T (ascSub aT aL hTL)
      have top := held_top (w := w) G aT lT hTL hL adead hmem (by omega) en fun i hi => hw i (by omega)
      rw [hF T hTc, ld] at top
      rw [Nat.mul_comm, ← tot, top]
      congr 2
      congr 1
      refine List.map_congr_left fun x hx => ?_
      show cE (rows.map (edgE s)) (srt (S.erase x), x) = cE (rows.map (edgE (q + m))) (srt (T.erase x ++ dead), x)
      rw [show q + m = s by omega]
      congr 2
      refine srt_eq ?_
      have := (ps.erase x).symm
      rw [List.erase_append_left _ hx] at this
      exact this
    have hC : 0 < C (n - m) (q + 1) := by
      rw [← List.length_range' (s := 0) (n := n - m) (step := 1), ← combsLen]
      exact List.length_pos_iff.mpr (combs_ne _ _ (by rw [List.length_range']; omega))
    have same : ∀ S T S' T' : List Nat, Asc S → S.length = s + 1 → (∀ x ∈ S, x < n) → Asc T → T.length = q + 1 → (∀ x ∈ T, x ∈ S) → Asc S' → S'.length = s + 1 → (∀ x ∈ S', x < n) → Asc T' → T'.length = q + 1 → (∀ x ∈ T', x ∈ S') → (T.map (g S)).sum = (T'.map (g S')).sum := by
      intro S T S' T' a1 a2 a3 a4 a5 a6 b1 b2 b3 b4 b5 b6
      have h1 := key S T a1 a2 a3 a4 a5 a6
      have h2 := key S' T' b1 b2 b3 b4 b5 b6
      exact phi_inj (Nat.eq_of_mul_eq_mul_right hC (h1.trans h2.symm))
    -- within a set all are equal
    have inS : ∀ S : List Nat, Asc S → S.length = s + 1 → (∀ x ∈ S, x < n) → ∀ x ∈ S, ∀ y ∈ S, g S y = g S x := by
      intro S aS lS hS x hx y hy
      by_cases e : x = y
      · rw [e]
      by_cases c : s = 0
      · exfalso
        subst c
        match S, lS, hx, hy with
        | [z], _, hx, hy =>
          exact e ((List.mem_singleton.mp hx).trans (List.mem_singleton.mp hy).symm)
      have hq := hq0 c
      let R := ((S.erase x).erase y).take q
      have ndS := asc_nodup aS
      have nd2 : ((S.erase x).erase y).Nodup := (ndS.sublist List.erase_sublist).sublist List.erase_sublist
      have hy2 : y ∈ S.erase x := (List.mem_erase_of_ne (fun z => e z.symm)).mpr hy
      have l2 : ((S.erase x).erase y).length = s - 1 := by
        rw [List.length_erase_of_mem hy2, List.length_erase_of_mem hx]
        omega
      have lR : R.length = q := by
        show (((S.erase x).erase y).take q).length = q
        rw [List.length_take]
        omega
      have ndR : R.Nodup := nd2.sublist (List.take_sublist _ _)
      have mR : ∀ z ∈ R, z ∈ S ∧ z ≠ x ∧ z ≠ y := fun z hz => by
        have h1 := List.mem_of_mem_take hz
        have h2 := (List.Nodup.mem_erase_iff (ndS.sublist List.erase_sublist)).mp h1
        have h3 := (List.Nodup.mem_erase_iff ndS).mp h2.2
        exact ⟨h3.2, h3.1, h2.1⟩
      have two : ∀ z, z ∈ S → z ∉ R → Asc (srt (z :: R)) ∧ (srt (z :: R)).length = q + 1 ∧ (∀ u ∈ srt (z :: R), u ∈ S) ∧ ((srt (z :: R)).map (g S)).sum = g S z + (R.map (g S)).sum := fun z hz hzR => by
        have pm := srt_perm (z :: R)
        refine ⟨srt_asc (List.nodup_cons.mpr ⟨hzR, ndR⟩), by rw [pm.length_eq, List.length_cons, lR], fun u hu => ?_, ?_⟩
        · rcases List.mem_cons.mp (pm.mem_iff.mp hu) with rfl | h
          · exact hz
          · exact (mR u h).1
        · rw [sum_perm (pm.map _), List.map_cons, List.sum_cons]
      obtain ⟨x1, x2, x3, x4⟩ := two x hx fun z => (mR x z).2.1 rfl
      obtain ⟨y1, y2, y3, y4⟩ := two y hy fun z => (mR y z).2.2 rfl
      have := same S _ S _ aS lS hS x1 x2 x3 aS lS hS y1 y2 y3
      rw [x4, y4] at this
      omega
    have one : ∀ S S' : List Nat, Asc S → S.length = s + 1 → (∀ x ∈ S, x < n) → Asc S' → S'.length = s + 1 → (∀ x ∈ S', x < n) → ∀ x ∈ S, ∀ x' ∈ S', g S x = g S' x' := by
      intro S S' a1 a2 a3 b1 b2 b3 x hx x' hx'
      have tk : ∀ S : List Nat, Asc S → S.length = s + 1 → Asc (S.take (q + 1)) ∧ (S.take (q + 1)).length = q + 1 ∧ ∀ u ∈ S.take (q + 1), u ∈ S := fun S a l => ⟨a.sublist (List.take_sublist _ _), by rw [List.length_take]; omega, fun u hu => List.mem_of_mem_take hu⟩
      obtain ⟨c1, c2, c3⟩ := tk S a1 a2
      obtain ⟨d1, d2, d3⟩ := tk S' b1 b2
      have := same S _ S' _ a1 a2 a3 c1 c2 c3 b1 b2 b3 d1 d2 d3
      rw [sum_congr' (g := fun _ => g S x) fun y hy => inS S a1 a2 a3 x hx y (c3 y hy), sum_const, c2, sum_congr' (g := fun _ => g S' x') fun y hy => inS S' b1 b2 b3 x' hx' y (d3 y hy), sum_const, d2] at this
      exact Nat.eq_of_mul_eq_mul_left (by omega) this
    have toS : ∀ e ∈ allE n s, Asc (srt (e.2 :: e.1)) ∧ (srt (e.2 :: e.1)).length = s + 1 ∧ (∀ x ∈ srt (e.2 :: e.1), x < n) ∧ e.2 ∈ srt (e.2 :: e.1) ∧ g (srt (e.2 :: e.1)) e.2 = cE (rows.map (edgE s)) e := fun e he => by
      obtain ⟨h1, h2, h3, h4⟩ := allE_back he
      have pm := srt_perm (e.2 :: e.1)
      refine ⟨srt_asc (List.nodup_cons.mpr ⟨fun z => (h4 _ z).2 rfl, asc_nodup h3⟩), by rw [pm.length_eq, List.length_cons, h2], fun x hx => ?_, pm.mem_iff.mpr List.mem_cons_self, ?_⟩
      · rcases List.mem_cons.mp (pm.mem_iff.mp hx) with rfl | h
        · exact h1
        · exact (h4 x h).1
      · show cE (rows.map (edgE s)) (srt ((srt (e.2 :: e.1)).erase e.2), e.2) = _
        have pe := pm.erase e.2
        rw [List.erase_cons_head] at pe
        rw [srt_eq pe, srt_self h3]
    cases hA : allE n s with
    | nil => exact ⟨0, fun e he => by rw [hA] at he; cases he⟩
    | cons e0 r =>
      have h0 : e0 ∈ allE n s := by
        rw [hA]
        exact List.mem_cons_self
      refine ⟨cE (rows.map (edgE s)) e0, fun e he => ?_⟩
      obtain ⟨a1, a2, a3, a4, a5⟩ := toS e he
      obtain ⟨b1, b2, b3, b4, b5⟩ := toS e0 h0
      rw [← a5, ← b5]
      exact one _ _ a1 a2 a3 b1 b2 b3 _ a4 _ b4
end Ef
namespace Ef
open PySem PySem.Spec PyProof.Rows L2 LamX
/-! ### a law that makes lambdas: its end -/
/-- the code object of the def at f -/
def CodeOf (K : PySem.W.Frag) (f c : Addr) : Prop := ∃ (o : Obj) (fd : FuncData), K.lookup f = some o ∧ o.data = .func fd ∧ fd.code = .ref c
theorem codeOf_tab {K : PySem.W.Frag} {x : Str} {f c P : Addr} (h1 : PySem.W.nsIn K mainGlobals x = some (some (.ref f))) (h2 : PySem.W.tabIn K x = some (c, P)) : CodeOf K f c := by
  unfold PySem.W.tabIn at h2
  rw [h1] at h2
  dsimp only at h2
  split at h2
  · rename_i fd osl e
    split at h2
    · rename_i c2 ec
      split at h2
      · split at h2
        · obtain ⟨rfl, _⟩ := Prod.mk.inj (Option.some.inj h2)
          exact ⟨_, fd, e, rfl, ec⟩
        · cases h2
      · cases h2
    · cases h2
  · cases h2
section
variable {P : Program} {w : World} {K : PySem.W.Frag} {mg : Str → Option Value} {base : Heap}
theorem Fun_ok0C {x qual : Str} {st : Stmt} {f c : Addr} {fd : FuncData} {N ps : List Str} {k : Nat} {sp : Sp} (F : Fun K x qual st f fd) (co : CodeOf K f c) (S : FnScope N ps (defScope st)) (len : ∀ vs H Q E, sp vs H Q E → vs.length = ps.length)
    (bod : ∀ (A : Around) (outer : List Env) (s : Shared) (H : Hp) (vs : List V) (Q : VK) (E : XK), A.guards = some [] → Room k (A.deeper (envOfC qual (defScope st) s.heap.objs.size f (.ref c))) → sp vs H Q E →
      ∃ t, PSs (cxOf CX0 P w K mg base N qual (defScope st) f (.ref c) A outer s H E).nox (defBody st) t ∧ t { nx := fun _ H' => Q .non H', rt := Q } (start N vs) H) :
    FnG P w K mg base CX0 (k + 1) f fd ps sp := by
  obtain ⟨oc, od, kV, doc, pm, an, cdv, ct, osl, rfl, lk, hcd⟩ := F.ex
  obtain ⟨o, fd2, e1, e2, e3⟩ := co
  have ecd : cdv = .ref c := by
    rw [lk] at e1
    obtain rfl := Option.some.inj e1
    cases e2
    exact e3
  subst ecd
  refine ⟨len, fun A gd outer s H args us vs Q E room e0 bnd rel wish => ?_⟩
  refine run_ofS (N := N) (ps := ps) lk hcd S room e0 bnd rel (len _ _ _ _ wish) fun hr => ?_
  obtain ⟨t, pt, rd⟩ := bod A outer s H vs Q E gd hr wish
  exact ⟨t, pt.nox, rd⟩
end
def tabHp (K : PySem.W.Frag) (a : Addr) (vs : List Value) (ns : List Int) (ts : List Addr) : Hp := fun b => if b ∈ ts then some (.tbl #[]) else scriptHp K a vs ns b
section
variable {K : PySem.W.Frag} {a : Addr} {vs : List Value} {ns : List Int} {ts : List Addr}
theorem tabHp_in {b : Addr} (h : b ∈ ts) : tabHp K a vs ns ts b = some (.tbl #[]) := if_pos h
theorem tabHp_out {b : Addr} (h : b ∉ ts) : tabHp K a vs ns ts b = scriptHp K a vs ns b := if_neg h
theorem tabHp_some {b : Addr} {u : HO} (h : tabHp K a vs ns ts b = some u) : (b ∈ ts ∧ u = .tbl #[]) ∨ (b ∉ ts ∧ b = a ∧ K.lookup a = none ∧ u = .frz (scriptObj vs) (.lst (ns.map V.int))) := by
  by_cases c : b ∈ ts
  · rw [tabHp_in c] at h
    exact .inl ⟨c, (Option.some.inj h).symm⟩
  · rw [tabHp_out c] at h
    exact .inr ⟨c, scriptHp_some h⟩
theorem tabHp_none {b : Addr} {o : Obj} {h : Heap} (ht : ∀ p ∈ ts, h.get? p = some (PySem.W.tabObj #[])) (ha : h.get? a = some (scriptObj vs)) (e : h.get? b = some o) (hd : ∀ its n, o.data ≠ .seq its n) (hf : o.data ≠ .fields #[]) : tabHp K a vs ns ts b = none := by
  have nb : b ∉ ts := fun z => by
    have e2 := ht b z
    rw [e] at e2
    obtain rfl := Option.some.inj e2
    exact hf rfl
  rw [tabHp_out nb]
  exact scriptHp_none ha e hd
end
/-- what is asked of a law with tables: cs tells the defs that make lambdas, their code objects and tables -/
def LawT (q : Program) (l : PySem.W.OpenLaw) (w : World) (K : PySem.W.Frag) (k n : Nat) (x : Str) (mg : Str → Option Value) (fa : Addr) : Prop :=
  ∃ (fd : FuncData) (cs : List (Str × Addr × Addr)) (sp : Sp), (∀ p ∈ cs, PySem.W.tabIn K p.1 = some p.2 ∧ K.lookup p.2.2 = none ∧ ((recsOf q).find? fun e => e.name == p.1).isSome = true) ∧
    (∀ (s : Shared) (u : Value), BindsTo s fd ⟨[u], []⟩ [(x, u)]) ∧
    (∀ (H : Hp) (a : Addr) (ns : List Int), ns.length ≤ n → (∀ p ∈ cs, H p.2.2 = some (.tbl #[])) → SqL K H a (ns.map V.int) → sp [.ref a] H (fun v _ => v = .bl true) fun _ _ _ => False) ∧
    ∀ base : Heap, K.In base → base.Ns mainGlobals mg → (∀ p ∈ cs, TabB base mg p.2.1 p.2.2) → FnG l.prog w K mg base CX0 k fa fd [x] sp
theorem lawGT {l : PySem.W.OpenLaw} {n k : Nat} {q : Program} {loose : List Str} {XP : (Str → Option Value) → Heap → Prop} {YP : World → Heap → Prop} {d : DefRec} {K : Params → PySem.W.Frag} {x : Str}
    (hn : l.most = some n) (hn2 : n ≤ sizeLine) (hdf : d.params.defaults = []) (room : Room k callerA)
    (hY : ∀ (w : World) (h : Heap), YP w h → (K w.params).In h)
    (F : ∀ (w : World) (mg : Str → Option Value) (fa : Addr) (h : Heap), (K w.params).In h → h.Ns mainGlobals mg → mg d.name = some (.ref fa) → LawT q l w (K w.params) k n x mg fa) :
    PySem.W.WalkO q loose XP YP l.row.toRowW d [] (fun f vs => PySem.call f vs) := by
  refine Att.attach_call hn hdf fun w s₀ s₁ mg mb fa o pm cd doc a vs ns G Y ho hd hcd hmg hobj hints hlen hgen => ?_
  have kin := hY w _ Y
  obtain ⟨fd, cs, sp, tbs, bnd, hsp, FF⟩ := F w mg fa _ kin G.T.g hmg
  have ha : s₁.heap.get? a = some (scriptObj vs) := hobj
  have short : ns.length ≤ sizeLine := Nat.le_trans hlen hn2
  have tabs : ∀ p ∈ cs, PySem.W.CodeHd s₁.heap p.2.1 p.2.2 ∧ s₁.heap.get? p.2.2 = some (PySem.W.tabObj #[]) := fun p hp => by
    obtain ⟨t1, t2, t3⟩ := tbs p hp
    obtain ⟨dr, hdr⟩ := Option.isSome_iff_exists.mp t3
    exact PySem.W.tab_of G.T kin hdr t1
  have ht : ∀ b ∈ cs.map (fun p => p.2.2), s₁.heap.get? b = some (PySem.W.tabObj #[]) := fun b hb => by
    obtain ⟨p, hp, rfl⟩ := List.mem_map.mp hb
    exact (tabs p hp).2
  have mem : ∀ p ∈ cs, p.2.2 ∈ cs.map (fun p => p.2.2) := fun p hp => List.mem_map.mpr ⟨p, hp, rfl⟩
  have na : a ∉ cs.map (fun p => p.2.2) := fun z => by
    have e := ht a z
    rw [ha] at e
    have e2 := congrArg Obj.data (Option.some.inj e)
    cases e2
  generalize hH : tabHp (K w.params) a vs ns (cs.map fun p => p.2.2) = H
  have some' : ∀ {b : Addr} {u : HO}, H b = some u → (b ∈ cs.map (fun p => p.2.2) ∧ u = .tbl #[]) ∨ (b ∉ cs.map (fun p => p.2.2) ∧ b = a ∧ (K w.params).lookup a = none ∧ u = .frz (scriptObj vs) (.lst (ns.map V.int))) := fun z => by
    rw [← hH] at z
    exact tabHp_some z
  have none' : ∀ {b : Addr} {o : Obj}, s₁.heap.get? b = some o → (∀ its n, o.data ≠ .seq its n) → o.data ≠ .fields #[] → H b = none := fun e h1 h2 => by
    rw [← hH]
    exact tabHp_none ht ha e h1 h2
  have keep0 : ∀ {b : Addr} {o : Obj}, s₁.heap.get? b = some o → H b = none → (hidT s₁.heap H).get? b = some o := fun e z => hidT_get e z
  have nsK : ∀ {b : Addr} {m : Str → Option Value}, s₁.heap.Ns b m → (hidT s₁.heap H).Ns b m := by
    rintro b m ⟨o, es, ep, e, dd, r⟩
    refine ⟨o, es, ep, keep0 e (none' e (fun its n z => ?_) fun z => ?_), dd, r⟩ <;> · rw [dd] at z; cases z
  have kinB : (K w.params).In (hidT s₁.heap H) := fun b o e => keep0 (kin b o e) (by
    cases z : H b with
    | none => rfl
    | some u =>
      rcases some' z with ⟨z1, _⟩ | ⟨_, rfl, z2, _⟩
      · obtain ⟨p, hp, rfl⟩ := List.mem_map.mp z1
        rw [(tbs p hp).2.1] at e
        cases e
      · rw [z2] at e
        cases e)
  have hM : Mod (K w.params) mg (hidT s₁.heap H) := by
    obtain ⟨mc, h1, h2⟩ := G.T.nolimit
    exact ⟨kinB, nsK G.T.g, ⟨mb, nsK G.T.b, G.T.builtins⟩, ⟨mc, nsK h1, h2⟩⟩
  have hok : HOk l.prog w H s₁.heap := fun b u z => by
    rcases some' z with ⟨z1, rfl⟩ | ⟨_, rfl, _, rfl⟩
    · exact ht b z1
    · exact ⟨ha, by rw [List.length_map]; exact short, vs, _, vals_ints hints, ha⟩
  have hS : SqL (K w.params) H a (ns.map V.int) := by
    cases hk : (K w.params).lookup a with
    | none =>
      refine .inl (.inr ⟨scriptObj vs, ?_⟩)
      rw [← hH, tabHp_out na]
      exact if_pos ⟨rfl, hk⟩
    | some o =>
      have e := kin a o hk
      rw [ha] at e
      obtain rfl := Option.some.inj e
      exact .inr ⟨_, vs.toArray, _, hk, rfl, rfl, rfl, by rw [List.size_toArray, hints.length]; exact short, by simpa using vals_ints hints⟩
  have hT : ∀ p ∈ cs, H p.2.2 = some (.tbl #[]) := fun p hp => by
    rw [← hH]
    exact tabHp_in (mem p hp)
  have TB : ∀ p ∈ cs, TabB (hidT s₁.heap H) mg p.2.1 p.2.2 := fun p hp => by
    obtain ⟨c1, c2⟩ := tabs p hp
    refine ⟨?_, ?_, fun z => ?_⟩
    · obtain ⟨o, us, file, tf, flags, tg, inF, text, tt, e1, r1, r2, r3, rr⟩ := c1
      refine ⟨o, us, file, tf, flags, tg, inF, text, tt, keep0 e1 (none' e1 (fun its n z => ?_) fun z => ?_), r1, r2, r3, rr⟩
      · rw [r2] at z
        cases z
      · rw [r2] at z
        cases z
        simp at r3
    · obtain ⟨bm, ob, b1, b2, b3, b4, b5, b6⟩ := G.T.bmain
      refine ⟨bm, ob, b1, b2, fun z => ?_, fun z => ?_, keep0 b3 (none' b3 (fun its n z => ?_) fun z => ?_), b4, b5, b6⟩
      · obtain ⟨o, es, ep, e, dd, _⟩ := G.T.g
        rw [z, e] at b3
        cases b3
        rw [dd] at b6
        cases b6
      · rw [z, c2] at b3
        cases b3
        cases b6
      · rw [b6] at z
        cases z
      · rw [b6] at z
        cases z
    · obtain ⟨o, es, ep, e, dd, _⟩ := G.T.g
      rw [z, c2] at e
      cases e
      cases dd
  have e0 : Env0 l.prog w (K w.params) mg (hidT s₁.heap H) callerA [] s₁ H :=
    ⟨rfl, hM, fun b o e => of_hidT e, Nat.le_of_eq (hidT_size _ _), trivial, fun b z => absurd (show b ∈ ([] : List Addr) from z) (by simp), hok, .of_eq hgen⟩
  refine codeAny_mono ((FF _ kinB (nsK G.T.g) TB).run callerA rfl [] s₁ _ ⟨[.ref a], []⟩ [.ref a] [.ref a] _ _ room e0 (bnd s₁ (.ref a)) (.cons rfl .nil) (hsp _ a ns hlen hT hS)) fun r s' got => ?_
  cases r with
  | error e => exact got.elim
  | ok fl =>
    cases fl with
    | next => exact got.elim
    | brk => exact got.elim
    | cont => exact got.elim
    | ret u =>
      obtain ⟨v, H', os, bare, un, hok', rv, z⟩ := got
      obtain rfl : v = .bl true := z
      obtain rfl : u = Value.bool true := rv
      have grown : ∀ p ∈ cs, ∃ more : Array Value, s'.heap.get? p.2.2 = some (PySem.W.tabObj more) := fun p hp => by
        obtain ⟨more, z⟩ := un.tbls p.2.2 #[] (hT p hp)
        exact ⟨_, hok' p.2.2 _ z⟩
      have old : ∀ b o, b ∉ cs.map (fun p => p.2.2) → s₁.heap.get? b = some o → s'.heap.get? b = some o := fun b o nb e => by
        cases z : H b with
        | none => exact un.keep b o e z (fun y => absurd (show b ∈ ([] : List Addr) from y) (by simp)) (by simp)
        | some u =>
          rcases some' z with ⟨z1, _⟩ | ⟨_, rfl, _, rfl⟩
          · exact absurd z1 nb
          · obtain ⟨e2, _⟩ := hok' b _ (un.frzs b _ _ z)
            rw [ha] at e
            obtain rfl := Option.some.inj e
            exact e2
      refine ⟨rfl, ⟨fun b o e => ?_, fun b o e => ?_⟩, os, bare⟩
      · by_cases c : b ∈ cs.map (fun p => p.2.2)
        · obtain ⟨p, hp, rfl⟩ := List.mem_map.mp c
          obtain ⟨more, hm⟩ := grown p hp
          obtain ⟨c1, c2⟩ := tabs p hp
          rw [c2] at e
          obtain rfl := Option.some.inj e
          exact .inr (.inl ⟨(c1.tab c2).isCodeTable, rfl, #[], more, rfl, by rw [Array.empty_append]; exact hm⟩)
        · exact .inl (old b o c e)
      · by_cases c : b ∈ cs.map (fun p => p.2.2)
        · obtain ⟨p, hp, rfl⟩ := List.mem_map.mp c
          obtain ⟨more, hm⟩ := grown p hp
          exact ⟨_, hm⟩
        · exact ⟨o, old b o c e⟩
/-! ### the rules -/
section
variable {X : Cx}
theorem pe_lam {T : List (Addr × Str)} {TT : (XK → Hp → VK → Prop) → Hp → VK → Prop} {x a : Str} {g c P : Addr} {k : Nat} {st : Stmt} {fd : FuncData} {Ng : List Str} {params : Arguments} {body : Expr} {scope : Scope} {t : XK → TE} {p lpos pos : Pos}
    (F : Fun X.K x x st g fd) (hg : Gl X x) (hm : X.mg x = some (.ref g)) (hb : L2.Binds X.K fd [a] []) (Sg : FnScope Ng [a] (defScope st)) (hNg : Ng[0]? = some a) (hva : Vis (defScope st) a)
    (hG : ∀ cdg, GivesTo X Ng x (defScope st) g cdg (defBody st) a (X.env.qual ++ "<lambda>") TT)
    (TB : TabB X.base X.mg c P) (hcode : X.env.code = .ref c) (hmT : (P, X.env.qual ++ "<lambda>") ∈ T) (hu : ∀ p ∈ T, p.1 = P → p.2 = X.env.qual ++ "<lambda>") (hr : Room (k + 2) X.A) (L : LamS X.env.scope scope)
    (hbody : ∀ (A : Around) (outer : List Env) (s : Shared) (H : Hp) (E : XK) (f c' : Addr), Room k (A.deeper (lamEnv X scope s.heap.objs.size f c')) → PE (lamCx X A outer s H E scope f c') body (t E))
    (hdef : defaultsOf params X.env = ([], []) := by rfl)
    (hbind : ∀ (q : Str) (cl : List (Str × Addr)) (pm cv ctv : Value), bindArgs (PySem.W.kla_fn "<lambda>" q params body scope cl pm cv ctv) ⟨[], []⟩ = pure [] := by intros; rfl)
    (hdb : (x == ("__debug__" : Str)) = false := by decide) (hd : (a == ("__debug__" : Str)) = false := by decide) (hcd : (a == ("__classdict__" : Str)) = false := by decide) :
    PE X (.Call (.Name x p) [.Lambda params body scope lpos] [] pos) (tLam T TT t) := by
  obtain ⟨oc, od, kV, doc, pm, an, cdv, ct, osl, rfl, lk, hcg⟩ := F.ex
  exact pe_lamcall hg hm F.kp lk hcg hb Sg hNg hva (hG cdv) TB hcode hmT hu hr L hdef hbind hbody hdb hd hcd
theorem takes_len {W : WX} (t : Takes X W) : Takes X (fun c d σ H => σ.length = X.N.length → W c d σ H) := fun u s' ⟨a, B, sI, pins, σ, H, cls, d, e, I, nb, up, sky, na, os, ag, w⟩ =>
  t u s' ⟨a, B, sI, pins, σ, H, cls, d, e, I, nb, up, sky, na, os, ag, w I.len⟩
/-- the call of what was handed in -/
def tAct (n : Nat) (W : WX) (f c' : Addr) (q : Str) (tl : XK → Hp → VK → Prop) : TE := fun σ H Q => ∃ E : XK, (∀ cls d σ' H', E cls d H' → σ'.length = n → W cls d σ' H') ∧ σ[0]? = some (some (.ref f)) ∧ H c' = some (CodeO c' q) ∧ tl E H Q
theorem pe_actE {f c' : Addr} {q : Str} {tl : XK → Hp → VK → Prop} {e : Expr} {W : WX} (n : Nat) (tk : Takes X W)
    (act : ∀ E : XK, ∀ W' : WX, Takes X W' → (∀ cls d σ' H', E cls d H' → W' cls d σ' H') → PE X e (fun σZ HZ Q => σZ[0]? = some (some (.ref f)) ∧ HZ c' = some (CodeO c' q) ∧ tl E HZ Q))
    (hn : X.N.length = n := by rfl) : PE X e (tAct n W f c' q tl) := by
  subst hn
  refine ⟨fun pins s σ H Q I h => ?_⟩
  obtain ⟨E, h1, h2, h3, h4⟩ := h
  exact (act E _ (takes_len tk) h1).run pins s σ H Q I ⟨h2, h3, h4⟩
theorem len5 {σ : L2.St} (h : σ.length = 5) : ∃ a b c d e, σ = [a, b, c, d, e] := by
  match σ, h with
  | [a, b, c, d, e], _ => exact ⟨a, b, c, d, e, rfl⟩
end
theorem hu1 {P : Addr} {q : Str} : ∀ p ∈ [(P, q)], p.1 = P → p.2 = q := fun p hp _ => by
  cases hp with
  | head => rfl
  | tail _ h => cases h
theorem hu2a {P P2 : Addr} {q q2 : Str} (ne : P ≠ P2) : ∀ p ∈ [(P, q), (P2, q2)], p.1 = P → p.2 = q := fun p hp e => by
  cases hp with
  | head => rfl
  | tail _ h =>
    cases h with
    | head => exact absurd e.symm ne
    | tail _ h => cases h
theorem hu2b {P P2 : Addr} {q q2 : Str} (ne : P ≠ P2) : ∀ p ∈ [(P, q), (P2, q2)], p.1 = P2 → p.2 = q2 := fun p hp e => by
  cases hp with
  | head => exact absurd e ne
  | tail _ h =>
    cases h with
    | head => rfl
    | tail _ h => cases h
/-! ### what is kept while tables grow -/
theorem tabs_same {T : List (Addr × Str)} {H H' : Hp} (t : Tabs T H) (s : Same H H') : Tabs T H' := t.ext s
theorem tabs_but {T : List (Addr × Str)} {H H' : Hp} {p : Addr} {xs : List V} (t : Tabs T H) (hp : H p = some (.lst xs)) (s : But p H H') : Tabs T H' := fun q hq => by
  obtain ⟨ps, h1, h2, h3⟩ := t q hq
  refine ⟨ps, s _ _ (fun z => ?_) h1, h2, fun pos cv hc => ?_⟩
  · rw [z, hp] at h1
    cases h1
  · obtain ⟨c, e1, e2⟩ := h3 pos cv hc
    refine ⟨c, e1, s _ _ (fun z => ?_) e2⟩
    rw [z, hp] at e2
    unfold CodeO at e2
    cases e2
theorem extN_same {H H' : Hp} (s : Same H H') : ExtN H H' := fun b o e _ => s b o e
def ButN (p : Addr) (H H' : Hp) : Prop := ∀ b o, b ≠ p → H b = some o → (∀ ps, o ≠ .tbl ps) → H' b = some o
theorem ButN.refl (p : Addr) (H : Hp) : ButN p H H := fun _ _ _ e _ => e
theorem ButN.of {p : Addr} {H H' : Hp} (s : But p H H') : ButN p H H' := fun b o n e _ => s b o n e
theorem ButN.ext {p : Addr} {H H' : Hp} (s : ExtN H H') : ButN p H H' := fun b o _ e n => s b o e n
theorem ButN.trans {p : Addr} {H H1 H2 : Hp} (s : ButN p H H1) (t : ButN p H1 H2) : ButN p H H2 := fun b o n e z => t b o n (s b o n e z) z
theorem ButN.same {p : Addr} {H H1 H2 : Hp} (s : ButN p H H1) (t : Same H1 H2) : ButN p H H2 := fun b o n e z => t b o (s b o n e z)
theorem ButN.tup {p t : Addr} {H H' : Hp} {xs : List V} (s : ButN p H H') (n : t ≠ p) (h : H t = some (.tup xs)) : H' t = some (.tup xs) := s _ _ n h (fun _ z => by cases z)
theorem ButN.lst {p t : Addr} {H H' : Hp} {xs : List V} (s : ButN p H H') (n : t ≠ p) (h : H t = some (.lst xs)) : H' t = some (.lst xs) := s _ _ n h (fun _ z => by cases z)
theorem extN_tup {t : Addr} {H H' : Hp} {xs : List V} (s : ExtN H H') (h : H t = some (.tup xs)) : H' t = some (.tup xs) := s _ _ h (fun _ z => by cases z)
theorem extN_lst {t : Addr} {H H' : Hp} {xs : List V} (s : ExtN H H') (h : H t = some (.lst xs)) : H' t = some (.lst xs) := s _ _ h (fun _ z => by cases z)
theorem SqL_butN {K : PySem.W.Frag} {H H' : Hp} {a p : Addr} {xs : List V} (h : SqL K H a xs) (np : H p = none) (s : ButN p H H') : SqL K H' a xs := by
  rcases h with (h | ⟨o, h⟩) | h
  · exact .inl (.inl (s _ _ (ne_of_none h np) h (fun _ z => by cases z)))
  · exact .inl (.inr ⟨o, s _ _ (ne_of_none h np) h (fun _ z => by cases z)⟩)
  · exact .inr h
theorem SqL_extN {K : PySem.W.Frag} {H H' : Hp} {a : Addr} {xs : List V} (h : SqL K H a xs) (s : ExtN H H') : SqL K H' a xs := by
  rcases h with (h | ⟨o, h⟩) | h
  · exact .inl (.inl (s _ _ h (fun _ z => by cases z)))
  · exact .inl (.inr ⟨o, s _ _ h (fun _ z => by cases z)⟩)
  · exact .inr h
theorem SqT_extN {K : PySem.W.Frag} {H H' : Hp} {a : Addr} {xs : List V} (h : SqT K H a xs) (s : ExtN H H') : SqT K H' a xs := by
  rcases h with (h | ⟨o, h⟩) | h
  · exact .inl (.inl (s _ _ h (fun _ z => by cases z)))
  · exact .inl (.inr ⟨o, s _ _ h (fun _ z => by cases z)⟩)
  · exact .inr h
end Ef
set_option maxHeartbeats 4000000
namespace Ef
open PySem PySem.Spec PyProof.Rows L2 PySem.W
/-! ### list(d) of a dict with nested keys -/
def rListDN (P : Program) (w : World) (K : PySem.W.Frag) : List V → Hp → VK → Prop := fun xs H Q => ∃ (d : Addr) (kvs : List (NestedKey × V)), xs = [V.ref d] ∧ DAt P w K H d kvs ∧ ∀ p us, H p = none → PySem.Paired (fun v k => NkAt K H k v) us (kvs.map (·.1)) → Q (.ref p) (upd H p (.lst us))
section
variable {X : Cx} {P : Program} {w : World}
theorem call_listDN (K : PySem.W.Frag) (hc : X.calm = true) (hp : X.prog = P := by rfl) (hw : X.w = w := by rfl) (hk : X.K = K := by rfl) : CallR X (.type "list") (rListDN P w K) := by
  subst hp hw hk
  intro pins s σ H xs us Q I r h
  obtain ⟨d, kvs, rfl, ⟨xs, e, hx, rfl⟩, q⟩ := h
  obtain ⟨u, rfl, rx⟩ := r.one
  cases rx
  obtain ⟨h1, h2, ys, rel, o, es, ep, e1, e2, e3, e4, e5⟩ := (I.hok d _ e).1
  have l1 : es.size = ys.length := size_of_entries e4
  have l2 : xs.length = ys.length := PySem.Paired.length rel
  refine kdl_call (kdl_raw h1 e2 e3) (I.ok.hd hc) e1 (by omega) fun h' tk acc' c' kp eS itt => ?_
  have ea : acc'.toList = xs.map fun x => Value.ref x.2.1 := by
    rw [keys_acc (P := X.prog) (w := X.w) e4 itt.1 itt.2]
    exact drel_keys (acc := []) rel
  have rv : Vals (xs.map fun x => V.ref x.2.1) acc'.toList := by
    rw [ea]
    have := vals_refs (xs.map fun x => x.2.1)
    rw [List.map_map, List.map_map] at this
    exact this
  have pr : PySem.Paired (fun v k => NkAt X.K H k v) (xs.map fun x => V.ref x.2.1) ((KN xs).map (·.1)) := by
    have := nk_paired (K := X.K) (H := H) (bs := xs.map fun x => (x.1, V.ref x.2.1)) fun b hb => by
      obtain ⟨x, hxx, rfl⟩ := List.mem_map.mp hb
      exact (hx x hxx).1
    rw [List.map_map, List.map_map] at this
    rw [List.map_map]
    exact this
  refine ⟨.ref s.heap.objs.size, _, I.laid (t' := tk) (o := .lst (xs.map fun x => V.ref x.2.1)) kp (Nat.le_refl _) ?_, rfl, q _ _ (I.hok.fresh (Nat.le_refl _)) pr⟩
  exact ⟨by rw [List.length_map]; exact h2, acc'.toList, c', rv, by rw [Array.toArray_toList]; exact eS⟩
end
end Ef
set_option maxHeartbeats 4000000
namespace Ef
open PySem PySem.Spec PyProof.Rows L2 LamX NdefX
open PySem.W (dataLt rcLt_alike rcGt_alike)
/-! ### a lambda with parameters, as a value -/
/-- the object at f is the lambda F with this body -/
def LmO (f : Addr) (F : NF) (body : Expr) : HO := .ext fun h => ∃ (od : Option Addr) (sl : Array (Option Value)) (pm ctv : Value), h.get? f = some (⟨.type "function", od, .func (PySem.W.kla_fn "<lambda>" F.qual F.params body F.scope F.cl pm (.ref F.c) ctv), sl⟩ : Obj)
theorem lmO_at {P : Program} {w : World} {H : Hp} {h : Heap} {f : Addr} {F : NF} {body : Expr} (hok : HOk P w H h) (e : H f = some (LmO f F body)) : ∃ (od : Option Addr) (sl : Array (Option Value)) (pm ctv : Value), h.get? f = some (⟨.type "function", od, .func (PySem.W.kla_fn "<lambda>" F.qual F.params body F.scope F.cl pm (.ref F.c) ctv), sl⟩ : Obj) := by
  obtain ⟨z, _, _⟩ := hok f _ e
  exact z
section
variable {X : Cx} {pins : List (Addr × Obj)} {σ : L2.St} {H : Hp} {s : Shared}
theorem inv_lm {F : NF} {body : Expr} {o : Obj} {t' : Nat} {pm ctv : Value} (I : Inv X pins σ H s) (ho : o = { cls := .type "function", data := .func (PySem.W.kla_fn "<lambda>" F.qual F.params body F.scope F.cl pm (.ref F.c) ctv) }) :
    Inv X pins σ (upd H s.heap.objs.size (LmO s.heap.objs.size F body)) { s with heap := s.heap.push o, toks := t' } := by
  subst ho
  refine I.laid (a := s.heap.objs.size) (fun b u e => Heap.get?_push_of_some _ e) (Nat.le_refl _) ?_
  have e : (s.heap.push ({ cls := .type "function", data := .func (PySem.W.kla_fn "<lambda>" F.qual F.params body F.scope F.cl pm (.ref F.c) ctv) } : Obj)).get? s.heap.objs.size = some ({ cls := .type "function", data := .func (PySem.W.kla_fn "<lambda>" F.qual F.params body F.scope F.cl pm (.ref F.c) ctv) } : Obj) := Heap.get?_push_size _ rfl
  exact ⟨⟨_, _, pm, ctv, e⟩, ⟨_, e⟩, fun h1 h2 ⟨od, sl, p, t, z⟩ st => ⟨od, sl, p, t, st _ z⟩⟩
theorem lam_makeN {T : List NTab} {nm : Nat → Nat → Str} {c P : Addr} {params : Arguments} {body : Expr} {scope : Scope} {pos : Pos} {E : Value → Shared → Prop} {Q : Value → Shared → Prop} (I : Inv X pins σ H s) (TB : TabB X.base X.mg c P) (hcode : X.env.code = .ref c)
    (hm : (P, nm) ∈ T) (hn : nm pos.line pos.col = X.env.qual ++ "<lambda>") (hu : ∀ p ∈ T, p.1 = P → p.2 = nm) (hT : TabsN T H) (hdef : defaultsOf params X.env = ([], [])) (hfree : ∀ y ∈ scope.names, y.2 = .free → ∃ c, X.env.cells.lookup y.1 = some c)
    (h : ∀ (f c' : Addr) (H1 : Hp) (s' : Shared), Inv X pins σ H1 s' → ExtN H H1 → (∀ b, H1 b = Option.none → H b = Option.none) → TabsN T H1 → H f = none → H1 f = some (LmO f ⟨"<lambda>", X.env.qual ++ "<lambda>", params, [], scope, cloFrom X.env.cells scope.names [], c'⟩ body) → H1 c' = some (CodeO c' (X.env.qual ++ "<lambda>")) → Q (.ref f) s') :
    wpAny (model X.prog X.w) X.A (eval (.Lambda params body scope pos) X.env) Q E s := by
  obtain ⟨ps, hP, ht, ha⟩ := (show TabN H P nm from hT _ hm)
  refine PySem.W.kla_eval hdef ?_
  have bP : s.heap.BuiltinsAt X.mg P := TB.bm.keeps I.bk
  have hP' : s.heap.get? P = some { cls := .none, data := .fields ps } := I.hok P _ hP
  cases hc : codeAmong pos ps.toList with
  | none =>
    refine PySem.W.kla_makeFunction (mg := X.mg) (c := c) (P := P) (ps := ps) (closure_ok hfree) I.ok.glob (I.mod.glob.keeps I.bk) hcode (TB.code.keeps I.bk) hP' ht hc TB.gP bP fun c' ctv h' tk hx hge hlt hrec htb => ?_
    obtain ⟨c2, oc, vs, t, e2, hoc, hd, hv⟩ := hrec
    cases e2
    have nC : H c' = none := I.hok.fresh hge
    have I1 := inv_table (t' := tk) (more := #[rawInt pos.line, rawInt pos.col, .ref c']) (h' := h') I hP (fun b o hb e => hx b o hb e) htb hge ⟨oc, vs, t, hoc, hd, hv⟩
    have hE : ExtN H (upd (upd H P (.tbl (ps ++ #[rawInt pos.line, rawInt pos.col, .ref c']))) c' (CodeO c' (X.env.qual ++ "<lambda>"))) := fun b o e n => by
      rw [upd_ne (ne_of_none e nC), upd_ne (fun z => n ps (Option.some.inj (e.symm.trans (by rw [z]; exact hP))))]
      exact e
    have eL : (ps ++ #[rawInt pos.line, rawInt pos.col, .ref c']).toList = ps.toList ++ [rawInt pos.line, rawInt pos.col, .ref c'] := by simp
    have T1 : TabsN T (upd (upd H P (.tbl (ps ++ #[rawInt pos.line, rawInt pos.col, .ref c']))) c' (CodeO c' (X.env.qual ++ "<lambda>"))) := fun p hp => by
      by_cases hb : p.1 = P
      · rw [hu p hp hb, hb]
        refine ⟨_, by rw [upd_ne (ne_of_none hP nC), upd_same], by rw [eL]; exact PySem.TriplesOk_snoc _ _ _ _ ht, fun p' cv hcv => ?_⟩
        rw [eL] at hcv
        rcases among_app2 _ ht hcv with z | ⟨z, z1, z2⟩
        · obtain ⟨c0, e1, e2⟩ := ha p' cv z
          exact ⟨c0, e1, hE _ _ e2 codeO_ne⟩
        · refine ⟨c', z, ?_⟩
          rw [← z1, ← z2, hn]
          exact upd_same
      · obtain ⟨ps', a1, a2, a3⟩ := hT p hp
        refine ⟨ps', by rw [upd_ne (ne_of_none a1 nC), upd_ne hb]; exact a1, a2, fun p' cv hcv => ?_⟩
        obtain ⟨c0, e1, e2⟩ := a3 p' cv hcv
        exact ⟨c0, e1, hE _ _ e2 codeO_ne⟩
    have nF := I1.hok.fresh (Nat.le_refl _)
    have I2 := inv_lm (F := ⟨"<lambda>", X.env.qual ++ "<lambda>", params, [], scope, cloFrom X.env.cells scope.names [], c'⟩) (body := body) (t' := tk) (pm := (X.mg "__name__").getD .none) (ctv := ctv) I1 rfl
    refine h h'.objs.size c' _ _ I2 (fun b o e n => ?_) (fun b e => upd_none (upd_none (upd_none e))) (T1.ext fun b o e => ?_) (I.hok.fresh (Nat.le_trans hge (Nat.le_of_lt hlt))) upd_same ?_
    · have e1 := hE b o e n
      exact (upd_ne (ne_of_none e1 nF)).trans e1
    · exact (upd_ne (ne_of_none e nF)).trans e
    · exact (upd_ne (Nat.ne_of_lt hlt)).trans upd_same
  | some cv =>
    obtain ⟨c', e, hco⟩ := ha pos cv hc
    subst e
    rw [hn] at hco
    refine PySem.W.kla_makeFunctionHit (mg := X.mg) (c := c) (P := P) (ps := ps) (closure_ok hfree) I.ok.glob (I.mod.glob.keeps I.bk) hcode (TB.code.keeps I.bk) hP' ht hc bP fun ctv h' tk hx hsz => ?_
    have I1 : Inv X pins σ H { s with heap := h', toks := tk } := I.kept hx
    have nF : H h'.objs.size = none := I1.hok.fresh (Nat.le_refl _)
    have I2 := inv_lm (F := ⟨"<lambda>", X.env.qual ++ "<lambda>", params, [], scope, cloFrom X.env.cells scope.names [], c'⟩) (body := body) (t' := tk) (pm := (X.mg "__name__").getD .none) (ctv := ctv) I1 rfl
    refine h h'.objs.size c' _ _ I2 (fun b o e n => ?_) (fun b e => upd_none e) (hT.ext fun b o e => ?_) nF upd_same ?_
    · exact (upd_ne (ne_of_none e nF)).trans e
    · exact (upd_ne (ne_of_none e nF)).trans e
    · exact (upd_ne (ne_of_none hco nF)).trans hco
end
def tLamV (T : List NTab) (body : Expr) (mk : Addr → NF) : TE := fun σ H Q => TabsN T H ∧ ∀ (f c' : Addr) (H1 : Hp), ExtN H H1 → (∀ b, H1 b = Option.none → H b = Option.none) → TabsN T H1 → H f = none → H1 f = some (LmO f (mk c') body) → H1 c' = some (CodeO c' (mk c').qual) → Q (.ref f) H1
section
variable {X : Cx}
theorem pe_lamV {T : List NTab} {nm : Nat → Nat → Str} {c P : Addr} {params : Arguments} {body : Expr} {scope : Scope} {pos : Pos} (TB : TabB X.base X.mg c P) (hcode : X.env.code = .ref c) (hm : (P, nm) ∈ T) (hn : nm pos.line pos.col = X.env.qual ++ "<lambda>") (hu : ∀ p ∈ T, p.1 = P → p.2 = nm)
    (hfree : ∀ y ∈ scope.names, y.2 = .free → X.env.scope.names.lookup y.1 = some .cell ∨ X.env.scope.names.lookup y.1 = some .free) (hdef : defaultsOf params X.env = ([], []) := by rfl) :
    PE X (.Lambda params body scope pos) (tLamV T body fun c' => ⟨"<lambda>", X.env.qual ++ "<lambda>", params, [], scope, cloFrom X.env.cells scope.names [], c'⟩) := by
  refine ⟨fun pins s σ H Q I h => ?_⟩
  obtain ⟨hT, h⟩ := h
  refine lam_makeN I TB hcode hm hn hu hT hdef (fun y hy e => (hfree y hy e).elim (fun z => I.ok.has _ (.inl z)) fun z => I.ok.has _ (.inr z)) fun f c' H1 s' I1 eN nn T1 f0 f1 c1 => ?_
  exact ⟨.ref f, H1, I1, rfl, h f c' H1 eN nn T1 f0 f1 c1⟩
/-- the lambda is called -/
theorem lam_run {pins : List (Addr × Obj)} {σ : L2.St} {H : Hp} {s : Shared} {A : Around} {k : Nat} {N ps fr : List Str} {f : Addr} {F : NF} {body : Expr} {us : List Value} {vs : List V} {ws : List (Option V)} {tb : TE} {Q : VK} (S : NScope N ps fr F.scope) (hr : Room (k + 1) A) (e0 : Env0 X.prog X.w X.K X.mg X.base A X.stack s H)
    (hb : ∀ (pm ctv : Value) (us : List Value), us.length = ps.length → bindArgs (PySem.W.kla_fn "<lambda>" F.qual F.params body F.scope F.cl pm (.ref F.c) ctv) ⟨us, []⟩ = pure (ps.zip us)) (I : Inv X pins σ H s) (hf : H f = some (LmO f F body)) (hc : H F.c = some (CodeO F.c F.qual))
    (C : CellsAt F.cl fr ws s.heap H) (r : Vals vs us) (hl : vs.length = ps.length) (hbody : Room k (A.deeper (envF F f s.heap.objs.size)) → PE (ncx CX0 X.prog X.w X.K X.mg X.base N F f A X.stack s H fun _ _ _ => False) body tb) (q : tb (startF N vs ws) H Q) :
    wpAny (model X.prog X.w) A (call (.ref f) us) (EP X pins σ Q) (fun _ _ => False) s := by
  have lim : s.heap.NoLimit := I.nolimit
  obtain ⟨od, sl, pm, ctv, ho⟩ := lmO_at I.hok hf
  have rc : codeAny (model X.prog X.w) A (.call (.ref f) ⟨us, []⟩) (CR CX0 X.stack X.prog X.w H s Q fun _ _ _ => False) s := by
    refine PySem.W.kla_callFunE hr.depth ho rfl S.co S.gen rfl (codeO_at I.hok hc) ?_
    rw [hb pm ctv us (by rw [← r.length]; exact hl)]
    refine wpAny_pure (wpAny_newFunctionEnv S.nocell (fun ⟨n, _⟩ hy => S.par n (List.of_mem_zip hy).1) (fun h₁ hns hsb => ⟨lim.fresh _ hsb, ?_⟩) S.kind)
    show codeAny _ _ (.expr body (envF F f s.heap.objs.size)) _ _
    have kp : ∀ b o, s.heap.get? b = some o → h₁.get? b = some o := fun b o e => hsb.extBut b o (Nat.ne_of_lt (Heap.lt_size e)) (Heap.get?_push_of_some _ e)
    have J : Inv (ncx CX0 X.prog X.w X.K X.mg X.base N F f A X.stack s H fun _ _ _ => False) [] (startF N vs ws) H { s with heap := h₁, toks := s.toks + (ps.zip us).length } := inv_startN S hr.hd e0 hl r C hns kp
    refine PySem.W.kla_codeExpr (wpAny_mono ((hbody (hr.deeper _)).run [] _ _ H Q J q) (fun v s' hq => ?_) fun e s' hq => hq)
    obtain ⟨w', H', J', rv, q⟩ := hq
    exact ⟨w', H', J'.os, J'.bare, J'.base, J'.hok, rv, q⟩
  refine wpAny_call (codeAny_mono rc fun r s' hq => ?_)
  cases r with
  | error e => exact hq
  | ok fl =>
    cases fl with
    | ret u => exact I.after hq
    | next => exact False.elim hq
    | brk => exact False.elim hq
    | cont => exact False.elim hq
end
/-! ### a list or a tuple walked by a builtin -/
def ItAt (h : Heap) (lt : Bool) (I l : Addr) (i : Nat) : Prop := cond lt (h.IsListIter I l i) (h.IsTupleIter I l i)
def SqE (K : PySem.W.Frag) (H : Hp) (lt : Bool) (l : Addr) (xs : List V) : Prop := cond lt (SqL K H l xs) (SqT K H l xs)
theorem SqE.same {K : PySem.W.Frag} {H H' : Hp} {lt : Bool} {l : Addr} {xs : List V} (s : Same H H') (h : SqE K H lt l xs) : SqE K H' lt l xs := by
  cases lt with
  | true => exact Same.seq s h
  | false => exact Same.seqT s h
theorem sqE_of {K : PySem.W.Frag} {H : Hp} {l : Addr} {xs : List V} (h : SqL K H l xs ∨ SqT K H l xs) : ∃ lt, SqE K H lt l xs := h.elim (fun z => ⟨true, z⟩) fun z => ⟨false, z⟩
section
variable {X : Cx} {pins : List (Addr × Obj)} {σ : L2.St} {H : Hp} {s : Shared} {A : Around} {lt : Bool} {it l : Addr} {xs : List V} {i : Nat} {Q : Option Value → Shared → Prop} {E : Value → Shared → Prop}
theorem next_item (I : Inv X pins σ H s) (hh : A.handled = none) (hs : SqE X.K H lt l xs) (hit : ItAt s.heap lt it l i) {x : V} (hx : xs[i]? = some x)
    (q : ∀ v h' tk, RelV x v → ItAt h' lt it l (i + 1) → (∀ b o, b ∉ [it] → s.heap.get? b = some o → h'.get? b = some o) → Q (some v) { s with heap := h', toks := tk }) : wpAny (model X.prog X.w) A (pyNext (.ref it)) Q E s := by
  cases lt with
  | true =>
    obtain ⟨its, rv, hl, _⟩ := I.list hs
    obtain ⟨u, hu, ru⟩ := rv.get hx
    have ne : l ≠ it := fun z => by
      obtain ⟨o, e1, e2, _⟩ := hl.isList
      obtain ⟨o', e3, e4, _⟩ := id hit
      rw [z, e3] at e1
      cases e1
      rw [e4] at e2
      injection e2 with e2
      exact absurd e2 (by decide)
    have hi : i < its.toArray.size := by
      have := (List.getElem?_eq_some_iff.mp hu).1
      simpa using this
    refine (Walks.list hh it l ne its.toArray).item i s Q E hi ⟨hit, hl.isList⟩ fun v h' tk hP hst hk => ?_
    have hv : its[i]? = some v := by simpa using hP
    rw [hu] at hv
    cases hv
    exact q _ h' tk ru hst.1 hk
  | false =>
    obtain ⟨its, rv, hl, _⟩ := I.tuple hs
    obtain ⟨u, hu, ru⟩ := rv.get hx
    have ne : l ≠ it := fun z => by
      obtain ⟨o, e1, e2, _⟩ := id hl
      obtain ⟨o', e3, e4, _⟩ := id hit
      rw [z, e3] at e1
      cases e1
      rw [e4] at e2
      injection e2 with e2
      exact absurd e2 (by decide)
    have hi : i < its.toArray.size := by
      have := (List.getElem?_eq_some_iff.mp hu).1
      simpa using this
    refine (Walks.tuple hh it l ne its.toArray).item i s Q E hi ⟨hit, hl⟩ fun v h' tk hP hst hk => ?_
    have hv : its[i]? = some v := by simpa using hP
    rw [hu] at hv
    cases hv
    exact q _ h' tk ru hst.1 hk
theorem next_done (I : Inv X pins σ H s) (hh : A.handled = none) (hs : SqE X.K H lt l xs) (hit : ItAt s.heap lt it l xs.length)
    (q : ∀ h' tk, (∀ b o, b ∉ [it] → s.heap.get? b = some o → h'.get? b = some o) → Q none { s with heap := h', toks := tk }) : wpAny (model X.prog X.w) A (pyNext (.ref it)) Q E s := by
  cases lt with
  | true =>
    obtain ⟨its, rv, hl, _⟩ := I.list hs
    have ne : l ≠ it := fun z => by
      obtain ⟨o, e1, e2, _⟩ := hl.isList
      obtain ⟨o', e3, e4, _⟩ := id hit
      rw [z, e3] at e1
      cases e1
      rw [e4] at e2
      injection e2 with e2
      exact absurd e2 (by decide)
    have hi : xs.length = its.toArray.size := by
      rw [rv.length]
      simp
    rw [hi] at hit
    exact (Walks.list hh it l ne its.toArray).done s Q E ⟨hit, hl.isList⟩ fun h' tk hk => q h' tk hk
  | false =>
    obtain ⟨its, rv, hl, _⟩ := I.tuple hs
    have ne : l ≠ it := fun z => by
      obtain ⟨o, e1, e2, _⟩ := id hl
      obtain ⟨o', e3, e4, _⟩ := id hit
      rw [z, e3] at e1
      cases e1
      rw [e4] at e2
      injection e2 with e2
      exact absurd e2 (by decide)
    have hi : xs.length = its.toArray.size := by
      rw [rv.length]
      simp
    rw [hi] at hit
    exact (Walks.tuple hh it l ne its.toArray).done s Q E ⟨hit, hl⟩ fun h' tk hk => q h' tk hk
theorem iter_begin (I : Inv X pins σ H s) (hs : SqE X.K H lt l xs) {Q : Value → Shared → Prop} (q : ∀ o : Obj, (∀ v, o.data ≠ .cell v) → ItAt (s.heap.push o) lt s.heap.objs.size l 0 → Q (.ref s.heap.objs.size) { s with heap := s.heap.push o }) : wpAny (model X.prog X.w) A (pyIter (.ref l)) Q E s := by
  cases lt with
  | true =>
    obtain ⟨its, rv, hl, _⟩ := I.list hs
    exact wpAny_pyIter_list hl.isList (q _ (fun v z => by cases z) ⟨_, Heap.get?_push_size _ rfl, rfl, rfl⟩)
  | false =>
    obtain ⟨its, rv, hl, _⟩ := I.tuple hs
    exact wpAny_pyIter_tuple hl (q _ (fun v z => by cases z) ⟨_, Heap.get?_push_size _ rfl, rfl, rfl⟩)
end
end Ef
set_option maxHeartbeats 4000000
namespace Ef
open PySem PySem.Spec PyProof.Rows L2 LamX NdefX
open PySem.W (dataLt rcLt_alike rcGt_alike)
/-! ### min and max by a key -/
/-- the function at f, asked at x, gives the data k -/
def Asks (X : Cx) (σ : L2.St) (A : Around) (f : Addr) (H2 : Hp) (x : V) (k : PyData) : Prop := ∀ (pins : List (Addr × Obj)) (s : Shared) (H3 : Hp) (u : Value), Same H2 H3 → Inv X pins σ H3 s → RelV x u → wpAny (model X.prog X.w) A (call (.ref f) [u]) (EP X pins σ fun v H4 => Same H3 H4 ∧ Dp X.K H4 v k) (fun _ _ => False) s
theorem fp_two {X : Cx} {pins : List (Addr × Obj)} {H : Hp} {a b : Addr} (h1 : FpOk X pins H a) (h2 : FpOk X pins H b) : ∀ c ∈ [a, b], FpOk X pins H c := fun c hc => by
  rcases List.mem_cons.mp hc with rfl | hc
  · exact h1
  · rw [List.mem_singleton.mp hc]
    exact h2
theorem fp_one {X : Cx} {pins : List (Addr × Obj)} {H : Hp} {a : Addr} (h1 : FpOk X pins H a) : ∀ c ∈ [a], FpOk X pins H c := fun c hc => by
  rw [List.mem_singleton.mp hc]
  exact h1
theorem seq_nocell {cls : String} {xs : Array Value} {c : Nat} : ∀ v, (seqObj cls xs c).data ≠ .cell v := fun v z => by cases z
theorem itAt_ob {h : Heap} {lt : Bool} {it l : Addr} {i : Nat} (e : ItAt h lt it l i) : ∃ o, h.get? it = some o ∧ ∀ v, o.data ≠ .cell v := by
  cases lt with
  | true =>
    obtain ⟨o, e1, _, e3⟩ := id e
    exact ⟨o, e1, fun v z => by rw [e3] at z; cases z⟩
  | false =>
    obtain ⟨o, e1, _, e3⟩ := id e
    exact ⟨o, e1, fun v z => by rw [e3] at z; cases z⟩
theorem itAt_keep {h h' : Heap} {lt : Bool} {it l : Addr} {i : Nat} (e : ItAt h lt it l i) (k : ∀ o, h.get? it = some o → h'.get? it = some o) : ItAt h' lt it l i := by
  cases lt with
  | true =>
    obtain ⟨o, e1, e2⟩ := id e
    exact ⟨o, k _ e1, e2⟩
  | false =>
    obtain ⟨o, e1, e2⟩ := id e
    exact ⟨o, k _ e1, e2⟩
/-- what is asked of the keys -/
structure Keys (kd : Nat → PyData) (n : Nat) : Prop where
  al : ∀ i < n, ∀ j < n, PySem.W.alike (kd i) (kd j) = true
  nn : ∀ i < n, kd i ≠ .none
  dp : ∀ i < n, (kd i).depth ≤ 20
theorem lt_irr (d : PyData) : dataLt d d = false := by
  have h := dLe_total (.non, d) (.non, d)
  rw [dLe_lt] at h
  simpa using h
theorem lt_tr {a b c : PyData} (h1 : dataLt a b = false) (h2 : dataLt b c = false) : dataLt a c = false := by
  have h := dLe_trans (.non, c) (.non, b) (.non, a) (by rw [dLe_lt]; show (!dataLt b c) = true; rw [h2]; rfl) (by rw [dLe_lt]; show (!dataLt a b) = true; rw [h1]; rfl)
  rw [dLe_lt] at h
  simpa using h
theorem lt_as {a b : PyData} (h1 : dataLt a b = true) : dataLt b a = false := by
  have h := dLe_total (.non, a) (.non, b)
  rw [dLe_lt, dLe_lt] at h
  have h : (!dataLt b a || !dataLt a b) = true := h
  rw [h1] at h
  simpa using h
section
variable {X : Cx} {σ : L2.St} {K : PySem.W.Frag}
theorem minK_loop {A : Around} {f l : Addr} {H2 : Hp} {xs : List V} {lt : Bool} {kd : Nat → PyData} {kw : List (Str × Value)} {R : Result → Shared → Prop} {pins : List (Addr × Obj)} {Q : VK} (hh : A.handled = none) (hu : A.units + 60 < cLine) (hs : SqE X.K H2 lt l xs) (turn : ∀ i x, xs[i]? = some x → Asks X σ A.in1 f H2 x (kd i)) (ks : Keys kd xs.length)
    (hR : ∀ u s', EP X pins σ Q u s' → R (.ok (.ret u)) s') (q : ∀ i x H3, xs[i]? = some x → (∀ j < xs.length, dataLt (kd j) (kd i) = false) → Same H2 H3 → Q x H3) :
    ∀ (r j i : Nat) (s : Shared) (H3 : Hp) (it S : Addr) (vb kb : Value) (xb vk : V) (c : Nat), xs.length - (j + 1) = r → j + 1 ≤ xs.length → Same H2 H3 → Inv X pins σ H3 s → FpOk X pins H3 it → FpOk X pins H3 S → S ≠ it → ItAt s.heap lt it l (j + 1) →
      s.heap.get? S = some (seqObj "list" #[vb, kb] c) → xs[i]? = some xb → (∀ j', j' ≤ j → dataLt (kd j') (kd i) = false) → RelV xb vb → RelV vk kb → Dp X.K H3 vk (kd i) →
      codeAny (model X.prog X.w) A (.builtin "min.loop" ⟨[.ref it, .ref f, .ref S], kw⟩) R s := by
  have hname : (toString "min" ++ toString ".loop" : String) = "min.loop" := by decide
  intro r
  induction r with
  | zero =>
    intro j i s H3 it S vb kb xb vk c hr hj s3 I fI fS hSI hit hS hxb hbest rb rk dk
    have hin : j + 1 = xs.length := by omega
    refine codeAny_builtin PySem.F.entry_min_loop ?_
    rw [Around.under_plainId PySem.F.plain_min_loop _]
    show wpAny _ A.in1 (seqItems? (.ref S) >>= _) _ _ _
    refine wpAny_bind (wpAny_seqItems hS rfl ?_)
    show wpAny _ A.in1 (tryCatch (pyNext (.ref it)) _ >>= _) _ _ _
    refine wpAny_bind (wpAny_tryCatch (next_done I hh (hs.same s3) (by rw [← hin]; exact hit) fun h' tk hk => ?_))
    have I1 : Inv X pins σ H3 { s with heap := h', toks := tk } := I.turnedL hk (fp_one fI)
    have hS' := hk S _ (by simpa using hSI) hS
    show wpAny _ A.in1 (updateSeq S (fun _ => #[]) >>= _) _ _ _
    refine wpAny_bind ?_
    have s1 := Heap.SameBut.update h' S (Obj.mapSeq fun _ => (#[] : Array Value))
    refine wpAny_updateSeq hS' rfl (wpAny_bind (wpAny_letGo (wpAny_pure ?_)))
    have I2 := I1.turnedL (h' := h'.update S (Obj.mapSeq fun _ => (#[] : Array Value))) (t' := tk) (ch := [S]) (fun b o hb e => (s1.2 b (by simpa using hb)).trans e) (fp_one fS)
    exact hR vb _ ⟨xb, H3, I2, rb, q i xb H3 hxb (fun j' hj' => hbest j' (by omega)) s3⟩
  | succ r ih =>
    intro j i s H3 it S vb kb xb vk c hr hj s3 I fI fS hSI hit hS hxb hbest rb rk dk
    have hlt : j + 1 < xs.length := by omega
    refine codeAny_builtin PySem.F.entry_min_loop ?_
    rw [Around.under_plainId PySem.F.plain_min_loop _]
    show wpAny _ A.in1 (seqItems? (.ref S) >>= _) _ _ _
    refine wpAny_bind (wpAny_seqItems hS rfl ?_)
    show wpAny _ A.in1 (tryCatch (pyNext (.ref it)) _ >>= _) _ _ _
    have hx : xs[j + 1]? = some xs[j + 1] := List.getElem?_eq_getElem hlt
    have hib : i < xs.length := (List.getElem?_eq_some_iff.mp hxb).1
    refine wpAny_bind (wpAny_tryCatch (next_item I hh (hs.same s3) hit hx fun v h' tk rv hit' hk => ?_))
    have I1 : Inv X pins σ H3 { s with heap := h', toks := tk } := I.turnedL hk (fp_one fI)
    have hS' : h'.get? S = some (seqObj "list" #[vb, kb] c) := hk S _ (by simpa using hSI) hS
    have I1p := I1.pinned (fp := [it, S]) (fp_two fI fS) (fun b hb => by
      rcases List.mem_cons.mp hb with rfl | hb
      · exact itAt_ob hit'
      · rw [List.mem_singleton.mp hb]
        exact ⟨_, hS', seq_nocell⟩)
    show wpAny _ A.in1 (tryCatch (holding [v] (call (.ref f) [v])) _ >>= _) _ _ _
    refine wpAny_bind (wpAny_tryCatch (wpAny_holding (wpAny_mono (turn _ _ hx _ _ H3 v s3 I1p rv) (fun kv s'' he => ?_) fun _ _ hF => hF.elim)))
    obtain ⟨wv, H4, I2p, rw', s34, dw⟩ := he
    have pinAt : ∀ b ∈ [it, S], ∀ o, h'.get? b = some o → s''.heap.get? b = some o ∧ H4 b = none := fun b hb o e => by
      have z := I2p.pin (b, o) (List.mem_append_right _ (List.mem_append_right _ (mem_pinsAt hb e)))
      exact ⟨z.1, z.2.1⟩
    obtain ⟨oi, hoi, _⟩ := itAt_ob hit'
    have nI := (pinAt it (by simp) _ hoi).2
    have nS := (pinAt S (by simp) _ hS').2
    have hS2 : s''.heap.get? S = some (seqObj "list" #[vb, kb] c) := (pinAt S (by simp) _ hS').1
    have hit2 : ItAt s''.heap lt it l (j + 1 + 1) := itAt_keep hit' fun o e => (pinAt it (by simp) o e).1
    have I2 : Inv X pins σ H4 s'' := I2p.unpinned
    have fI2 : FpOk X pins H4 it := ⟨nI, fI.2⟩
    have fS2 : FpOk X pins H4 S := ⟨nS, fS.2⟩
    have dk2 : Dp X.K H4 vk (kd i) := Dp.mono s34 dk
    obtain ⟨as1, r1⟩ := Dp.reads I2 _ _ _ dw rw'
    obtain ⟨as2, r2⟩ := Dp.reads I2 _ _ _ dk2 rk
    show wpAny _ A.in1 (tryCatch (holding [v, kv] (richCompare .Lt kv kb >>= _)) _ >>= _) _ _ _
    refine wpAny_bind (wpAny_tryCatch (wpAny_holding (wpAny_bind (rcLt_alike _ _ A.in1 s'' kv kb _ _ r1 r2 (ks.al _ hlt _ hib) (ks.nn _ hlt) ?_ _ _ _ _ ?_))))
    · have h1 := ks.dp _ hlt
      have h2 := Nat.min_le_left (kd (j + 1)).depth (kd i).depth
      show A.units + 1 + _ < cLine
      omega
    refine wpAny_bind (wpAny_holding (wpAny_truthy_bool ?_))
    refine wpAny_bind (wpAny_letGo (wpAny_pure ?_))
    cases hb' : dataLt (kd (j + 1)) (kd i) with
    | true =>
      have s1 := Heap.SameBut.update s''.heap S (Obj.mapSeq fun _ => #[v, kv])
      obtain ⟨c2, hc2⟩ : ∃ c2, (s''.heap.update S (Obj.mapSeq fun _ => #[v, kv])).get? S = some (seqObj "list" #[v, kv] c2) := ⟨_, get?_update_seq hS2 fun _ => #[v, kv]⟩
      simp only [if_true]
      refine wpAny_bind ?_
      refine wpAny_updateSeq hS2 rfl (wpAny_bind (wpAny_letGo ?_))
      rw [hname]
      have I3 := I2.turnedL (h' := s''.heap.update S (Obj.mapSeq fun _ => #[v, kv])) (t' := s''.toks) (ch := [S]) (fun b o hb e => (s1.2 b (by simpa using hb)).trans e) (fp_one fS2)
      refine wpAny_pure ⟨plainId_quiet PySem.F.plain_min_loop _, ih (j + 1) (j + 1) _ H4 it S v kv _ wv c2 (by omega) hlt (s3.trans s34) I3 fI2 fS2 hSI (itAt_keep hit2 fun o e => (s1.2 it hSI.symm).trans e) hc2 hx (fun j' h1 => ?_) rv rw' dw⟩
      by_cases e : j' = j + 1
      · subst e
        exact lt_irr _
      · exact lt_tr (hbest j' (by omega)) (lt_as hb')
    | false =>
      simp only [Bool.false_eq_true, if_false]
      refine wpAny_bind (wpAny_letGo ?_)
      rw [hname]
      refine wpAny_pure ⟨plainId_quiet PySem.F.plain_min_loop _, ih (j + 1) i _ H4 it S vb kb xb vk c (by omega) hlt (s3.trans s34) I2 fI2 fS2 hSI hit2 hS2 hxb (fun j' h1 => ?_) rb rk dk2⟩
      by_cases e : j' = j + 1
      · subst e
        exact hb'
      · exact hbest j' (by omega)
theorem minK_call {A : Around} {f l : Addr} {H2 : Hp} {xs : List V} {lt : Bool} {kd : Nat → PyData} {kw : List (Str × Value)} {dv : Option Value} {s : Shared} {pins : List (Addr × Obj)} {Q : VK} {E : Value → Shared → Prop} (hh : A.handled = none) (hu : A.units + 60 < cLine) (hs : SqE X.K H2 lt l xs) (turn : ∀ i x, xs[i]? = some x → Asks X σ A.in1 f H2 x (kd i)) (ks : Keys kd xs.length)
    (hkw : (kw = [(Str.ofString "key", .ref f)] ∧ 0 < xs.length) ∨ ∃ d : V, ∃ dv : Value, kw = [(Str.ofString "key", .ref f), (Str.ofString "default", dv)] ∧ RelV d dv ∧ (xs = [] → Q d H2)) (I : Inv X pins σ H2 s) (q : ∀ i x H3, xs[i]? = some x → (∀ j < xs.length, dataLt (kd j) (kd i) = false) → Same H2 H3 → Q x H3) :
    wpAny (model X.prog X.w) A (call (.builtin "min") [.ref l] kw) (EP X pins σ Q) E s := by
  have hname : (toString "min" ++ toString ".loop" : String) = "min.loop" := by decide
  have body : ∀ kw2 : List (Str × Value), (0 < xs.length ∨ ∃ d : V, ∃ dv : Value, kw2 = [(Str.ofString "default", dv)] ∧ RelV d dv ∧ (xs = [] → Q d H2)) → wpAny (model X.prog X.w) A.in1 (do
      let it ← pyIter (.ref l)
      let S ← newList []
      again (.builtin (toString "min" ++ toString ".loop") ⟨[it, .ref f, S], kw2⟩)) (fun fin s' => match fin with
      | .done f => (match (Except.ok f : Result) with | .ok (.ret v) => EP X pins σ Q v s' | .ok _ => False | .error e => E e s')
      | .again c' => c'.quiet = true ∧ codeAny (model X.prog X.w) A c' (fun r s' => match r with | .ok (.ret v) => EP X pins σ Q v s' | .ok _ => False | .error e => E e s') s') E s := by
    intro kw2 hk2
    refine wpAny_bind (iter_begin I hs fun oi noc hit => ?_)
    refine wpAny_bind (wpAny_newList ?_ (Nat.zero_le _))
    rw [hname]
    have hS0 : (s.heap.push oi).objs.size = s.heap.objs.size + 1 := size_push' ..
    have hSI : (s.heap.push oi).objs.size ≠ s.heap.objs.size := by rw [hS0]; exact Nat.ne_of_gt (Nat.lt_succ_self _)
    have kp : ∀ b o, s.heap.get? b = some o → ((s.heap.push oi).push (seqObj "list" #[] 0)).get? b = some o := fun b o e => Heap.get?_push_of_some _ (Heap.get?_push_of_some _ e)
    have I0 : Inv X pins σ H2 { s with heap := (s.heap.push oi).push (seqObj "list" #[] 0) } := I.kept (t' := s.toks) kp
    have fI : FpOk X pins H2 s.heap.objs.size := I.fpOk (Nat.le_refl _) (I.hok.fresh (Nat.le_refl _))
    have fS : FpOk X pins H2 (s.heap.push oi).objs.size := I.fpOk (by rw [hS0]; exact Nat.le_succ _) (I.hok.fresh (by rw [hS0]; exact Nat.le_succ _))
    have gS : ((s.heap.push oi).push (seqObj "list" #[] 0)).get? (s.heap.push oi).objs.size = some (seqObj "list" #[] 0) := Heap.get?_push_size _ rfl
    have hit0 : ItAt ((s.heap.push oi).push (seqObj "list" #[] 0)) lt s.heap.objs.size l 0 := itAt_keep hit fun o e => Heap.get?_push_of_some _ e
    refine wpAny_pure ⟨plainId_quiet PySem.F.plain_min_loop _, ?_⟩
    generalize hSS : (s.heap.push oi).objs.size = S at hSI fS gS ⊢
    generalize hii : s.heap.objs.size = it at hSI fI hit0 ⊢
    generalize hs0 : ({ s with heap := (s.heap.push oi).push (seqObj "list" #[] 0) } : Shared) = s0 at I0 ⊢
    have gS : s0.heap.get? S = some (seqObj "list" #[] 0) := by rw [← hs0]; exact gS
    have hit0 : ItAt s0.heap lt it l 0 := by rw [← hs0]; exact hit0
    refine codeAny_builtin PySem.F.entry_min_loop ?_
    rw [Around.under_plainId PySem.F.plain_min_loop _]
    show wpAny _ A.in1 (seqItems? (.ref S) >>= _) _ _ _
    refine wpAny_bind (wpAny_seqItems gS rfl ?_)
    show wpAny _ A.in1 (tryCatch (pyNext (.ref it)) _ >>= _) _ _ _
    by_cases hne : 0 < xs.length
    · have hx : xs[0]? = some xs[0] := List.getElem?_eq_getElem hne
      refine wpAny_bind (wpAny_tryCatch (next_item I0 hh hs hit0 hx fun v h' tk rv hit' hk => ?_))
      have I1 : Inv X pins σ H2 { s0 with heap := h', toks := tk } := I0.turnedL hk (fp_one fI)
      have hS' : h'.get? S = some (seqObj "list" #[] 0) := hk S _ (by simpa using hSI) gS
      have I1p := I1.pinned (fp := [it, S]) (fp_two fI fS) (fun b hb => by
        rcases List.mem_cons.mp hb with rfl | hb
        · exact itAt_ob hit'
        · rw [List.mem_singleton.mp hb]
          exact ⟨_, hS', seq_nocell⟩)
      show wpAny _ A.in1 (tryCatch (holding [v] (call (.ref f) [v])) _ >>= _) _ _ _
      refine wpAny_bind (wpAny_tryCatch (wpAny_holding (wpAny_mono (turn _ _ hx _ _ H2 v (Same.refl _) I1p rv) (fun kv s'' he => ?_) fun _ _ hF => hF.elim)))
      obtain ⟨wv, H4, I2p, rw', s34, dw⟩ := he
      have pinAt : ∀ b ∈ [it, S], ∀ o, h'.get? b = some o → s''.heap.get? b = some o ∧ H4 b = none := fun b hb o e => by
        have z := I2p.pin (b, o) (List.mem_append_right _ (List.mem_append_right _ (mem_pinsAt hb e)))
        exact ⟨z.1, z.2.1⟩
      obtain ⟨oi2, hoi, _⟩ := itAt_ob hit'
      have nI := (pinAt it (by simp) _ hoi).2
      have nS := (pinAt S (by simp) _ hS').2
      have hS2 : s''.heap.get? S = some (seqObj "list" #[] 0) := (pinAt S (by simp) _ hS').1
      have hit2 : ItAt s''.heap lt it l (0 + 1) := itAt_keep hit' fun o e => (pinAt it (by simp) o e).1
      have I2 : Inv X pins σ H4 s'' := I2p.unpinned
      have fI2 : FpOk X pins H4 it := ⟨nI, fI.2⟩
      have fS2 : FpOk X pins H4 S := ⟨nS, fS.2⟩
      have s1 := Heap.SameBut.update s''.heap S (Obj.mapSeq fun _ => #[v, kv])
      obtain ⟨c2, hc2⟩ : ∃ c2, (s''.heap.update S (Obj.mapSeq fun _ => #[v, kv])).get? S = some (seqObj "list" #[v, kv] c2) := ⟨_, get?_update_seq hS2 fun _ => #[v, kv]⟩
      show wpAny _ A.in1 (updateSeq S (fun _ => #[v, kv]) >>= _) _ _ _
      refine wpAny_bind ?_
      refine wpAny_updateSeq hS2 rfl ?_
      rw [hname]
      have I3 := I2.turnedL (h' := s''.heap.update S (Obj.mapSeq fun _ => #[v, kv])) (t' := s''.toks) (ch := [S]) (fun b o hb e => (s1.2 b (by simpa using hb)).trans e) (fp_one fS2)
      refine wpAny_pure ⟨plainId_quiet PySem.F.plain_min_loop _, minK_loop hh hu hs turn ks (fun u s' z => z) q _ 0 0 _ H4 it S v kv _ wv c2 rfl hne s34 I3 fI2 fS2 hSI (itAt_keep hit2 fun o e => (s1.2 it hSI.symm).trans e) hc2 hx (fun j' h1 => ?_) rv rw' dw⟩
      have e : j' = 0 := by omega
      subst e
      exact lt_irr _
    · rcases hk2 with z | ⟨d, dv, rfl, rd, qd⟩
      · exact absurd z hne
      have e0 : xs = [] := List.eq_nil_of_length_eq_zero (by omega)
      refine wpAny_bind (wpAny_tryCatch (next_done I0 hh hs (by rw [e0]; exact hit0) fun h' tk hk => ?_))
      have I1 : Inv X pins σ H2 { s0 with heap := h', toks := tk } := I0.turnedL hk (fp_one fI)
      show wpAny _ A.in1 (rule _ >>= _) _ _ _
      exact wpAny_bind (wpAny_rule (wpAny_pure ⟨d, H2, I1, rd, qd e0⟩))
  rcases hkw with ⟨rfl, hne⟩ | ⟨d, dv, rfl, rd, qd⟩
  · refine kmk_tree PySem.F.kind_min PySem.F.plain_min PySem.F.entry_min (kmk_min_key _ _) ?_
    show wpAny _ A.in1 (Builtin.Builtins.bindParams "min" ["key", "default"] 0 ⟨[], [(Str.ofString "key", .ref f)]⟩ >>= _) _ _ s
    refine wpAny_bind (wpAny_of_eq (show Builtin.Builtins.bindParams "min" ["key", "default"] 0 ⟨[], [(Str.ofString "key", .ref f)]⟩ = pure [some (.ref f), none] from rfl) ?_)
    refine wpAny_bind (wpAny_pure ?_)
    exact body [] (.inl hne)
  · refine kmk_tree PySem.F.kind_min PySem.F.plain_min PySem.F.entry_min (by unfold argsOk; kernel_rfl) ?_
    show wpAny _ A.in1 (Builtin.Builtins.bindParams "min" ["key", "default"] 0 ⟨[], [(Str.ofString "key", .ref f), (Str.ofString "default", dv)]⟩ >>= _) _ _ s
    refine wpAny_bind (wpAny_of_eq (show Builtin.Builtins.bindParams "min" ["key", "default"] 0 ⟨[], [(Str.ofString "key", .ref f), (Str.ofString "default", dv)]⟩ = pure [some (.ref f), some dv] from rfl) ?_)
    refine wpAny_bind (wpAny_pure ?_)
    exact body [(Str.ofString "default", dv)] (.inr ⟨d, dv, rfl, rd, qd⟩)
theorem maxK_loop {A : Around} {f l : Addr} {H2 : Hp} {xs : List V} {lt : Bool} {kd : Nat → PyData} {kw : List (Str × Value)} {R : Result → Shared → Prop} {pins : List (Addr × Obj)} {Q : VK} (hh : A.handled = none) (hu : A.units + 60 < cLine) (hs : SqE X.K H2 lt l xs) (turn : ∀ i x, xs[i]? = some x → Asks X σ A.in1 f H2 x (kd i)) (ks : Keys kd xs.length)
    (hR : ∀ u s', EP X pins σ Q u s' → R (.ok (.ret u)) s') (q : ∀ i x H3, xs[i]? = some x → (∀ j < xs.length, dataLt (kd i) (kd j) = false) → Same H2 H3 → Q x H3) :
    ∀ (r j i : Nat) (s : Shared) (H3 : Hp) (it S : Addr) (vb kb : Value) (xb vk : V) (c : Nat), xs.length - (j + 1) = r → j + 1 ≤ xs.length → Same H2 H3 → Inv X pins σ H3 s → FpOk X pins H3 it → FpOk X pins H3 S → S ≠ it → ItAt s.heap lt it l (j + 1) →
      s.heap.get? S = some (seqObj "list" #[vb, kb] c) → xs[i]? = some xb → (∀ j', j' ≤ j → dataLt (kd i) (kd j') = false) → RelV xb vb → RelV vk kb → Dp X.K H3 vk (kd i) →
      codeAny (model X.prog X.w) A (.builtin "max.loop" ⟨[.ref it, .ref f, .ref S], kw⟩) R s := by
  have hname : (toString "max" ++ toString ".loop" : String) = "max.loop" := by decide
  intro r
  induction r with
  | zero =>
    intro j i s H3 it S vb kb xb vk c hr hj s3 I fI fS hSI hit hS hxb hbest rb rk dk
    have hin : j + 1 = xs.length := by omega
    refine codeAny_builtin PySem.F.entry_max_loop ?_
    rw [Around.under_plainId PySem.F.plain_max_loop _]
    show wpAny _ A.in1 (seqItems? (.ref S) >>= _) _ _ _
    refine wpAny_bind (wpAny_seqItems hS rfl ?_)
    show wpAny _ A.in1 (tryCatch (pyNext (.ref it)) _ >>= _) _ _ _
    refine wpAny_bind (wpAny_tryCatch (next_done I hh (hs.same s3) (by rw [← hin]; exact hit) fun h' tk hk => ?_))
    have I1 : Inv X pins σ H3 { s with heap := h', toks := tk } := I.turnedL hk (fp_one fI)
    have hS' := hk S _ (by simpa using hSI) hS
    show wpAny _ A.in1 (updateSeq S (fun _ => #[]) >>= _) _ _ _
    refine wpAny_bind ?_
    have s1 := Heap.SameBut.update h' S (Obj.mapSeq fun _ => (#[] : Array Value))
    refine wpAny_updateSeq hS' rfl (wpAny_bind (wpAny_letGo (wpAny_pure ?_)))
    have I2 := I1.turnedL (h' := h'.update S (Obj.mapSeq fun _ => (#[] : Array Value))) (t' := tk) (ch := [S]) (fun b o hb e => (s1.2 b (by simpa using hb)).trans e) (fp_one fS)
    exact hR vb _ ⟨xb, H3, I2, rb, q i xb H3 hxb (fun j' hj' => hbest j' (by omega)) s3⟩
  | succ r ih =>
    intro j i s H3 it S vb kb xb vk c hr hj s3 I fI fS hSI hit hS hxb hbest rb rk dk
    have hlt : j + 1 < xs.length := by omega
    refine codeAny_builtin PySem.F.entry_max_loop ?_
    rw [Around.under_plainId PySem.F.plain_max_loop _]
    show wpAny _ A.in1 (seqItems? (.ref S) >>= _) _ _ _
    refine wpAny_bind (wpAny_seqItems hS rfl ?_)
    show wpAny _ A.in1 (tryCatch (pyNext (.ref it)) _ >>= _) _ _ _
    have hx : xs[j + 1]? = some xs[j + 1] := List.getElem?_eq_getElem hlt
    have hib : i < xs.length := (List.getElem?_eq_some_iff.mp hxb).1
    refine wpAny_bind (wpAny_tryCatch (next_item I hh (hs.same s3) hit hx fun v h' tk rv hit' hk => ?_))
    have I1 : Inv X pins σ H3 { s with heap := h', toks := tk } := I.turnedL hk (fp_one fI)
    have hS' : h'.get? S = some (seqObj "list" #[vb, kb] c) := hk S _ (by simpa using hSI) hS
    have I1p := I1.pinned (fp := [it, S]) (fp_two fI fS) (fun b hb => by
      rcases List.mem_cons.mp hb with rfl | hb
      · exact itAt_ob hit'
      · rw [List.mem_singleton.mp hb]
        exact ⟨_, hS', seq_nocell⟩)
    show wpAny _ A.in1 (tryCatch (holding [v] (call (.ref f) [v])) _ >>= _) _ _ _
    refine wpAny_bind (wpAny_tryCatch (wpAny_holding (wpAny_mono (turn _ _ hx _ _ H3 v s3 I1p rv) (fun kv s'' he => ?_) fun _ _ hF => hF.elim)))
    obtain ⟨wv, H4, I2p, rw', s34, dw⟩ := he
    have pinAt : ∀ b ∈ [it, S], ∀ o, h'.get? b = some o → s''.heap.get? b = some o ∧ H4 b = none := fun b hb o e => by
      have z := I2p.pin (b, o) (List.mem_append_right _ (List.mem_append_right _ (mem_pinsAt hb e)))
      exact ⟨z.1, z.2.1⟩
    obtain ⟨oi, hoi, _⟩ := itAt_ob hit'
    have nI := (pinAt it (by simp) _ hoi).2
    have nS := (pinAt S (by simp) _ hS').2
    have hS2 : s''.heap.get? S = some (seqObj "list" #[vb, kb] c) := (pinAt S (by simp) _ hS').1
    have hit2 : ItAt s''.heap lt it l (j + 1 + 1) := itAt_keep hit' fun o e => (pinAt it (by simp) o e).1
    have I2 : Inv X pins σ H4 s'' := I2p.unpinned
    have fI2 : FpOk X pins H4 it := ⟨nI, fI.2⟩
    have fS2 : FpOk X pins H4 S := ⟨nS, fS.2⟩
    have dk2 : Dp X.K H4 vk (kd i) := Dp.mono s34 dk
    obtain ⟨as1, r1⟩ := Dp.reads I2 _ _ _ dw rw'
    obtain ⟨as2, r2⟩ := Dp.reads I2 _ _ _ dk2 rk
    show wpAny _ A.in1 (tryCatch (holding [v, kv] (richCompare .Gt kv kb >>= _)) _ >>= _) _ _ _
    refine wpAny_bind (wpAny_tryCatch (wpAny_holding (wpAny_bind (rcGt_alike _ _ A.in1 s'' kv kb _ _ r1 r2 (ks.al _ hlt _ hib) (ks.nn _ hlt) ?_ _ _ _ _ ?_))))
    · have h1 := ks.dp _ hlt
      have h2 := Nat.min_le_left (kd (j + 1)).depth (kd i).depth
      show A.units + 1 + _ < cLine
      omega
    refine wpAny_bind (wpAny_holding (wpAny_truthy_bool ?_))
    refine wpAny_bind (wpAny_letGo (wpAny_pure ?_))
    cases hb' : dataLt (kd i) (kd (j + 1)) with
    | true =>
      have s1 := Heap.SameBut.update s''.heap S (Obj.mapSeq fun _ => #[v, kv])
      obtain ⟨c2, hc2⟩ : ∃ c2, (s''.heap.update S (Obj.mapSeq fun _ => #[v, kv])).get? S = some (seqObj "list" #[v, kv] c2) := ⟨_, get?_update_seq hS2 fun _ => #[v, kv]⟩
      simp only [if_true]
      refine wpAny_bind ?_
      refine wpAny_updateSeq hS2 rfl (wpAny_bind (wpAny_letGo ?_))
      rw [hname]
      have I3 := I2.turnedL (h' := s''.heap.update S (Obj.mapSeq fun _ => #[v, kv])) (t' := s''.toks) (ch := [S]) (fun b o hb e => (s1.2 b (by simpa using hb)).trans e) (fp_one fS2)
      refine wpAny_pure ⟨plainId_quiet PySem.F.plain_max_loop _, ih (j + 1) (j + 1) _ H4 it S v kv _ wv c2 (by omega) hlt (s3.trans s34) I3 fI2 fS2 hSI (itAt_keep hit2 fun o e => (s1.2 it hSI.symm).trans e) hc2 hx (fun j' h1 => ?_) rv rw' dw⟩
      by_cases e : j' = j + 1
      · subst e
        exact lt_irr _
      · exact lt_tr (lt_as hb') (hbest j' (by omega))
    | false =>
      simp only [Bool.false_eq_true, if_false]
      refine wpAny_bind (wpAny_letGo ?_)
      rw [hname]
      refine wpAny_pure ⟨plainId_quiet PySem.F.plain_max_loop _, ih (j + 1) i _ H4 it S vb kb xb vk c (by omega) hlt (s3.trans s34) I2 fI2 fS2 hSI hit2 hS2 hxb (fun j' h1 => ?_) rb rk dk2⟩
      by_cases e : j' = j + 1
      · subst e
        exact hb'
      · exact hbest j' (by omega)
theorem maxK_call {A : Around} {f l : Addr} {H2 : Hp} {xs : List V} {lt : Bool} {kd : Nat → PyData} {kw : List (Str × Value)} {dv : Option Value} {s : Shared} {pins : List (Addr × Obj)} {Q : VK} {E : Value → Shared → Prop} (hh : A.handled = none) (hu : A.units + 60 < cLine) (hs : SqE X.K H2 lt l xs) (turn : ∀ i x, xs[i]? = some x → Asks X σ A.in1 f H2 x (kd i)) (ks : Keys kd xs.length)
    (hkw : (kw = [(Str.ofString "key", .ref f)] ∧ 0 < xs.length) ∨ ∃ d : V, ∃ dv : Value, kw = [(Str.ofString "key", .ref f), (Str.ofString "default", dv)] ∧ RelV d dv ∧ (xs = [] → Q d H2)) (I : Inv X pins σ H2 s) (q : ∀ i x H3, xs[i]? = some x → (∀ j < xs.length, dataLt (kd i) (kd j) = false) → Same H2 H3 → Q x H3) :
    wpAny (model X.prog X.w) A (call (.builtin "max") [.ref l] kw) (EP X pins σ Q) E s := by
  have hname : (toString "max" ++ toString ".loop" : String) = "max.loop" := by decide
  have body : ∀ kw2 : List (Str × Value), (0 < xs.length ∨ ∃ d : V, ∃ dv : Value, kw2 = [(Str.ofString "default", dv)] ∧ RelV d dv ∧ (xs = [] → Q d H2)) → wpAny (model X.prog X.w) A.in1 (do
      let it ← pyIter (.ref l)
      let S ← newList []
      again (.builtin (toString "max" ++ toString ".loop") ⟨[it, .ref f, S], kw2⟩)) (fun fin s' => match fin with
      | .done f => (match (Except.ok f : Result) with | .ok (.ret v) => EP X pins σ Q v s' | .ok _ => False | .error e => E e s')
      | .again c' => c'.quiet = true ∧ codeAny (model X.prog X.w) A c' (fun r s' => match r with | .ok (.ret v) => EP X pins σ Q v s' | .ok _ => False | .error e => E e s') s') E s := by
    intro kw2 hk2
    refine wpAny_bind (iter_begin I hs fun oi noc hit => ?_)
    refine wpAny_bind (wpAny_newList ?_ (Nat.zero_le _))
    rw [hname]
    have hS0 : (s.heap.push oi).objs.size = s.heap.objs.size + 1 := size_push' ..
    have hSI : (s.heap.push oi).objs.size ≠ s.heap.objs.size := by rw [hS0]; exact Nat.ne_of_gt (Nat.lt_succ_self _)
    have kp : ∀ b o, s.heap.get? b = some o → ((s.heap.push oi).push (seqObj "list" #[] 0)).get? b = some o := fun b o e => Heap.get?_push_of_some _ (Heap.get?_push_of_some _ e)
    have I0 : Inv X pins σ H2 { s with heap := (s.heap.push oi).push (seqObj "list" #[] 0) } := I.kept (t' := s.toks) kp
    have fI : FpOk X pins H2 s.heap.objs.size := I.fpOk (Nat.le_refl _) (I.hok.fresh (Nat.le_refl _))
    have fS : FpOk X pins H2 (s.heap.push oi).objs.size := I.fpOk (by rw [hS0]; exact Nat.le_succ _) (I.hok.fresh (by rw [hS0]; exact Nat.le_succ _))
    have gS : ((s.heap.push oi).push (seqObj "list" #[] 0)).get? (s.heap.push oi).objs.size = some (seqObj "list" #[] 0) := Heap.get?_push_size _ rfl
    have hit0 : ItAt ((s.heap.push oi).push (seqObj "list" #[] 0)) lt s.heap.objs.size l 0 := itAt_keep hit fun o e => Heap.get?_push_of_some _ e
    refine wpAny_pure ⟨plainId_quiet PySem.F.plain_max_loop _, ?_⟩
    generalize hSS : (s.heap.push oi).objs.size = S at hSI fS gS ⊢
    generalize hii : s.heap.objs.size = it at hSI fI hit0 ⊢
    generalize hs0 : ({ s with heap := (s.heap.push oi).push (seqObj "list" #[] 0) } : Shared) = s0 at I0 ⊢
    have gS : s0.heap.get? S = some (seqObj "list" #[] 0) := by rw [← hs0]; exact gS
    have hit0 : ItAt s0.heap lt it l 0 := by rw [← hs0]; exact hit0
    refine codeAny_builtin PySem.F.entry_max_loop ?_
    rw [Around.under_plainId PySem.F.plain_max_loop _]
    show wpAny _ A.in1 (seqItems? (.ref S) >>= _) _ _ _
    refine wpAny_bind (wpAny_seqItems gS rfl ?_)
    show wpAny _ A.in1 (tryCatch (pyNext (.ref it)) _ >>= _) _ _ _
    by_cases hne : 0 < xs.length
    · have hx : xs[0]? = some xs[0] := List.getElem?_eq_getElem hne
      refine wpAny_bind (wpAny_tryCatch (next_item I0 hh hs hit0 hx fun v h' tk rv hit' hk => ?_))
      have I1 : Inv X pins σ H2 { s0 with heap := h', toks := tk } := I0.turnedL hk (fp_one fI)
      have hS' : h'.get? S = some (seqObj "list" #[] 0) := hk S _ (by simpa using hSI) gS
      have I1p := I1.pinned (fp := [it, S]) (fp_two fI fS) (fun b hb => by
        rcases List.mem_cons.mp hb with rfl | hb
        · exact itAt_ob hit'
        · rw [List.mem_singleton.mp hb]
          exact ⟨_, hS', seq_nocell⟩)
      show wpAny _ A.in1 (tryCatch (holding [v] (call (.ref f) [v])) _ >>= _) _ _ _
      refine wpAny_bind (wpAny_tryCatch (wpAny_holding (wpAny_mono (turn _ _ hx _ _ H2 v (Same.refl _) I1p rv) (fun kv s'' he => ?_) fun _ _ hF => hF.elim)))
      obtain ⟨wv, H4, I2p, rw', s34, dw⟩ := he
      have pinAt : ∀ b ∈ [it, S], ∀ o, h'.get? b = some o → s''.heap.get? b = some o ∧ H4 b = none := fun b hb o e => by
        have z := I2p.pin (b, o) (List.mem_append_right _ (List.mem_append_right _ (mem_pinsAt hb e)))
        exact ⟨z.1, z.2.1⟩
      obtain ⟨oi2, hoi, _⟩ := itAt_ob hit'
      have nI := (pinAt it (by simp) _ hoi).2
      have nS := (pinAt S (by simp) _ hS').2
      have hS2 : s''.heap.get? S = some (seqObj "list" #[] 0) := (pinAt S (by simp) _ hS').1
      have hit2 : ItAt s''.heap lt it l (0 + 1) := itAt_keep hit' fun o e => (pinAt it (by simp) o e).1
      have I2 : Inv X pins σ H4 s'' := I2p.unpinned
      have fI2 : FpOk X pins H4 it := ⟨nI, fI.2⟩
      have fS2 : FpOk X pins H4 S := ⟨nS, fS.2⟩
      have s1 := Heap.SameBut.update s''.heap S (Obj.mapSeq fun _ => #[v, kv])
      obtain ⟨c2, hc2⟩ : ∃ c2, (s''.heap.update S (Obj.mapSeq fun _ => #[v, kv])).get? S = some (seqObj "list" #[v, kv] c2) := ⟨_, get?_update_seq hS2 fun _ => #[v, kv]⟩
      show wpAny _ A.in1 (updateSeq S (fun _ => #[v, kv]) >>= _) _ _ _
      refine wpAny_bind ?_
      refine wpAny_updateSeq hS2 rfl ?_
      rw [hname]
      have I3 := I2.turnedL (h' := s''.heap.update S (Obj.mapSeq fun _ => #[v, kv])) (t' := s''.toks) (ch := [S]) (fun b o hb e => (s1.2 b (by simpa using hb)).trans e) (fp_one fS2)
      refine wpAny_pure ⟨plainId_quiet PySem.F.plain_max_loop _, maxK_loop hh hu hs turn ks (fun u s' z => z) q _ 0 0 _ H4 it S v kv _ wv c2 rfl hne s34 I3 fI2 fS2 hSI (itAt_keep hit2 fun o e => (s1.2 it hSI.symm).trans e) hc2 hx (fun j' h1 => ?_) rv rw' dw⟩
      have e : j' = 0 := by omega
      subst e
      exact lt_irr _
    · rcases hk2 with z | ⟨d, dv, rfl, rd, qd⟩
      · exact absurd z hne
      have e0 : xs = [] := List.eq_nil_of_length_eq_zero (by omega)
      refine wpAny_bind (wpAny_tryCatch (next_done I0 hh hs (by rw [e0]; exact hit0) fun h' tk hk => ?_))
      have I1 : Inv X pins σ H2 { s0 with heap := h', toks := tk } := I0.turnedL hk (fp_one fI)
      show wpAny _ A.in1 (rule _ >>= _) _ _ _
      exact wpAny_bind (wpAny_rule (wpAny_pure ⟨d, H2, I1, rd, qd e0⟩))
  rcases hkw with ⟨rfl, hne⟩ | ⟨d, dv, rfl, rd, qd⟩
  · refine kmk_tree PySem.F.kind_max PySem.F.plain_max PySem.F.entry_max (kmk_max_key _ _) ?_
    show wpAny _ A.in1 (Builtin.Builtins.bindParams "max" ["key", "default"] 0 ⟨[], [(Str.ofString "key", .ref f)]⟩ >>= _) _ _ s
    refine wpAny_bind (wpAny_of_eq (show Builtin.Builtins.bindParams "max" ["key", "default"] 0 ⟨[], [(Str.ofString "key", .ref f)]⟩ = pure [some (.ref f), none] from rfl) ?_)
    refine wpAny_bind (wpAny_pure ?_)
    exact body [] (.inl hne)
  · refine kmk_tree PySem.F.kind_max PySem.F.plain_max PySem.F.entry_max (by unfold argsOk; kernel_rfl) ?_
    show wpAny _ A.in1 (Builtin.Builtins.bindParams "max" ["key", "default"] 0 ⟨[], [(Str.ofString "key", .ref f), (Str.ofString "default", dv)]⟩ >>= _) _ _ s
    refine wpAny_bind (wpAny_of_eq (show Builtin.Builtins.bindParams "max" ["key", "default"] 0 ⟨[], [(Str.ofString "key", .ref f), (Str.ofString "default", dv)]⟩ = pure [some (.ref f), some dv] from rfl) ?_)
    refine wpAny_bind (wpAny_pure ?_)
    exact body [(Str.ofString "default", dv)] (.inr ⟨d, dv, rfl, rd, qd⟩)
end
end Ef
set_option maxHeartbeats 4000000
namespace Ef
open PySem PySem.Spec PyProof.Rows L2 LamX NdefX
/-! ### sorted by a key that is an int -/
section
variable {prog : Program} {w : World} {A : Around} {E : Value → Shared → Prop} {s : Shared} {a kS : Addr} {b : Bool} {vs : List Value} {kz : List Int} {keys : Array Value} {e e1 : Nat} {P : PySem.Fin → Shared → Prop}
theorem skey_tail {st : SortSt} (nk : s.heap.get? kS = some (seqObj "list" keys e)) (na : s.heap.get? a = some (seqObj "list" #[] e1)) (hka : kS ≠ a)
    (hk : IntsAre keys.toList kz) (hlen : kz.length = vs.length) (hZ : vs.length ≤ sizeLine) (hp : (arrOf st).Perm (keys.zip vs.toArray)) (hs : SortedTo (arrOf st) (arrOf st).size) (hfl : failedOf st = none)
    (h : ∀ h' tk out c, (∀ b o, b ≠ kS → b ≠ a → s.heap.get? b = some o → h'.get? b = some o) → h'.get? a = some (seqObj "list" out c) → KskOut b kz vs out.toList → P (.done (.ret .none)) { s with heap := h', toks := tk }) :
    wpAny (model prog w) A (ksk_tail a b e1 (.ref kS) st) P E s := by
  have hZ2 := hZ
  rw [sizeLine_eq] at hZ2
  have hsz : keys.size = vs.length := by
    have h1 := hk.length
    rw [Array.length_toList] at h1
    omega
  have hsz2 : (arrOf st).size = vs.length := by rw [hp.size_eq, Array.size_zip, hsz, List.size_toArray, Nat.min_self]
  have hout : (if b then ((arrOf st).map (·.2)).reverse else (arrOf st).map (·.2)).size = vs.length := by
    cases b with
    | false => simp only [Bool.false_eq_true, if_false, Array.size_map]; exact hsz2
    | true => simp only [if_true, Array.size_reverse, Array.size_map]; exact hsz2
  have s1 := Heap.SameBut.update s.heap kS (Obj.mapSeq fun _ => (#[] : Array Value))
  have na1 : (s.heap.update kS (Obj.mapSeq fun _ => (#[] : Array Value))).get? a = some (seqObj "list" #[] e1) := (s1.2 a hka.symm).trans na
  have s2 := Heap.SameBut.update (s.heap.update kS (Obj.mapSeq fun _ => (#[] : Array Value))) a (Obj.mapSeq fun _ => if b then ((arrOf st).map (·.2)).reverse else (arrOf st).map (·.2))
  have upd2 : ∀ g : Array Value, ∃ c2, ((s.heap.update kS (Obj.mapSeq fun _ => (#[] : Array Value))).update a (Obj.mapSeq fun _ => g)).get? a = some (seqObj "list" g c2) := fun g => ⟨_, get?_update_seq na1 fun _ => g⟩
  obtain ⟨c2, hc2⟩ := upd2 (if b then ((arrOf st).map (·.2)).reverse else (arrOf st).map (·.2))
  unfold ksk_tail
  try dsimp only
  refine wpAny_bind (listUpdate_at nk rfl ?_ (by rw [hsz, sizeLine_eq]; omega) (Nat.zero_le _))
  refine wpAny_bind (wpAny_letGo ?_)
  refine wpAny_bind (seqEpoch_at na1 rfl ?_)
  refine wpAny_bind (listUpdate_at na1 rfl ?_ (Nat.zero_le _) (Nat.le_trans (Nat.le_of_eq hout) (by rw [sizeLine_eq]; omega)))
  rw [hfl]
  simp only [bne_self_eq_false, Bool.false_eq_true, if_false]
  exact wpAny_pure (h _ _ _ c2 (fun b o h1 h2 z => (s2.2 b h2).trans ((s1.2 b h1).trans z)) hc2 (ksk_out hk hp hs))
theorem skey_end (nk : s.heap.get? kS = some (seqObj "list" keys e)) (na : s.heap.get? a = some (seqObj "list" #[] e1)) (hka : kS ≠ a)
    (hk : IntsAre keys.toList kz) (hlen : kz.length = vs.length) (hZ : vs.length ≤ sizeLine)
    (h : ∀ h' tk out c, (∀ b o, b ≠ kS → b ≠ a → s.heap.get? b = some o → h'.get? b = some o) → h'.get? a = some (seqObj "list" out c) → KskOut b kz vs out.toList → P (.done (.ret .none)) { s with heap := h', toks := tk }) :
    wpAny (model prog w) A (ksk_end a b vs.toArray e1 (.ref kS) keys) P E s := by
  have hZ2 := hZ
  rw [sizeLine_eq] at hZ2
  have hsz : keys.size = vs.length := by
    have h1 := hk.length
    rw [Array.length_toList] at h1
    omega
  have hzs : (keys.zip vs.toArray).size = vs.length := by rw [Array.size_zip, hsz, List.size_toArray, Nat.min_self]
  have step : ∀ t : Sem PySem.Fin, wpAny (model prog w) A t P E s → wpAny (model prog w) A (if b = true then (do let _ ← rule "list.sort.reverse"; t) else t) P E s := by
    intro t ht
    split
    · exact wpAny_bind (wpAny_rule ht)
    · exact ht
  have hstart : (if b = true then (keys.zip vs.toArray).reverse else keys.zip vs.toArray).Perm (keys.zip vs.toArray) := by
    cases b with
    | false => exact Array.Perm.refl _
    | true => exact Array.perm_iff_toList_perm.mpr (by rw [if_pos rfl, Array.toList_reverse]; exact List.reverse_perm _)
  unfold ksk_end
  try dsimp only
  refine step _ ?_
  by_cases h2 : vs.toArray.size < 2
  · rw [if_pos h2, if_pos h2]
    refine wpAny_bind (wpAny_pure ?_)
    rw [StateT.run_pure]
    refine wpAny_bind (wpAny_pure ?_)
    try dsimp only
    refine skey_tail (st := SortSt.mk' general' (if b = true then (keys.zip vs.toArray).reverse else keys.zip vs.toArray) #[] 7 none) nk na hka hk hlen hZ hstart ?_ rfl h
    intro i j hij hj
    have hj2 : j < (if b = true then (keys.zip vs.toArray).reverse else keys.zip vs.toArray).size := hj
    rw [hstart.size_eq, hzs] at hj2
    rw [List.size_toArray] at h2
    have : i = j := by omega
    subst this
    exact Int.le_refl _
  · rw [if_neg h2, if_neg h2]
    rw [List.size_toArray] at h2
    rw [ksk_kind hk (by rw [hsz]; omega)]
    refine wpAny_bind (wpAny_pure ?_)
    refine wpAny_bind (wpAny_mono (wpS_sortRunsAny (κ := intKind) (a₀ := keys.zip vs.toArray) (st := SortSt.mk' oneType' (if b = true then (keys.zip vs.toArray).reverse else keys.zip vs.toArray) #[] 7 none)
      (Q := fun _ st' => (arrOf st').Perm (keys.zip vs.toArray) ∧ failedOf st' = none ∧ SortedTo (arrOf st') (keys.zip vs.toArray).size)
      intKind_oneLt (ksk_keysOfInt (ksk_intKeys hk)) ⟨hstart, rfl, rfl⟩ rfl (by rw [hzs]; omega) fun st' a1 a2 a3 => ⟨a1, a2, sortedTo_of_int a3⟩) ?_ fun _ _ e => e)
    rintro ⟨⟨⟩, st'⟩ s' ⟨rfl, hp, hf, hs⟩
    try dsimp only
    exact skey_tail nk na hka hk hlen hZ hp (by rw [hp.size_eq]; exact hs) hf h
end
section
variable {X : Cx} {σ : L2.St}
theorem skey_rest {A : Around} {f a kS : Addr} {H2 : Hp} {xs : List V} {vs : List Value} {kd : V → Int} {e1 : Nat} {P : PySem.Fin → Shared → Prop} {E : Value → Shared → Prop} {pins : List (Addr × Obj)} {s : Shared} (turn : ∀ x ∈ xs, Asks X σ A f H2 x (.int (kd x))) (rv : Vals xs vs) (hZ : vs.length ≤ sizeLine)
    (I : Inv X pins σ H2 s) (fk : FpOk X pins H2 kS) (fa : FpOk X pins H2 a) (hka : kS ≠ a) (nk : s.heap.get? kS = some (seqObj "list" #[] 0)) (na : s.heap.get? a = some (seqObj "list" #[] e1))
    (h : ∀ s' H3 out c, Same H2 H3 → Inv X pins σ H3 s' → FpOk X pins H3 a → s'.heap.get? a = some (seqObj "list" out c) → KskOut false (xs.map kd) vs out.toList → P (.done (.ret .none)) s') :
    wpAny (model X.prog X.w) A (ksk_rest a (.ref f) false vs.toArray e1 (.ref kS)) P E s := by
  have hZ2 := hZ
  rw [sizeLine_eq] at hZ2
  have hlen : (xs.map kd).length = vs.length := by rw [List.length_map, rv.length]
  unfold ksk_rest
  refine wpAny_bind (wpAny_rule ?_)
  first
    | rw [List.forIn_toArray]
    | (rw [← Array.forIn_toList]; simp only [List.toList_toArray])
    | rw [← Array.forIn_toList]
  refine wpAny_bind (ksk_fold (fun i s' => ∃ H3 kA e, Same H2 H3 ∧ Inv X pins σ H3 s' ∧ FpOk X pins H3 kS ∧ FpOk X pins H3 a ∧ s'.heap.get? kS = some (seqObj "list" kA e) ∧ s'.heap.get? a = some (seqObj "list" #[] e1) ∧ IntsAre kA.toList ((xs.map kd).take i)) vs 0 s
    ⟨H2, #[], 0, Same.refl _, I, fk, fa, nk, na, by simpa using IntsAre.nil⟩ ?step ?done)
  case step =>
    rintro j u s' hu ⟨H3, kA, e, s3, I3, fk3, fa3, nk3, na3, hk⟩
    simp only [Nat.zero_add] at hk ⊢
    have hj : j < vs.length := (List.getElem?_eq_some_iff.mp hu).1
    have hjx : j < xs.length := by rw [rv.length]; exact hj
    obtain ⟨x, hx⟩ : ∃ x, xs[j]? = some x := ⟨_, List.getElem?_eq_getElem hjx⟩
    obtain ⟨u2, hu2, ru⟩ := rv.get hx
    rw [hu] at hu2
    cases hu2
    have hz : kA.size ≤ vs.length := by
      have h1 := hk.length
      rw [Array.length_toList, List.length_take] at h1
      omega
    have I3p := I3.pinned (fp := [kS, a]) (fp_two fk3 fa3) (fun b hb => by
      rcases List.mem_cons.mp hb with rfl | hb
      · exact ⟨_, nk3, seq_nocell⟩
      · rw [List.mem_singleton.mp hb]
        exact ⟨_, na3, seq_nocell⟩)
    refine wpAny_bind (wpAny_attempt (wpAny_mono (turn _ (List.mem_of_getElem? hx) _ _ H3 u s3 I3p ru) (fun v s'' he => ?_) fun _ _ hF => hF.elim))
    obtain ⟨wv, H4, I4p, rw', s34, dw⟩ := he
    cases dw
    obtain ⟨t2, rfl⟩ := rw'
    have pinAt : ∀ b ∈ [kS, a], ∀ o, s'.heap.get? b = some o → s''.heap.get? b = some o ∧ H4 b = none := fun b hb o e => by
      have z := I4p.pin (b, o) (List.mem_append_right _ (List.mem_append_right _ (mem_pinsAt hb e)))
      exact ⟨z.1, z.2.1⟩
    obtain ⟨nk4, zk⟩ := pinAt kS (by simp) _ nk3
    obtain ⟨na4, za⟩ := pinAt a (by simp) _ na3
    have I4 : Inv X pins σ H4 s'' := I4p.unpinned
    have fk4 : FpOk X pins H4 kS := ⟨zk, fk3.2⟩
    have fa4 : FpOk X pins H4 a := ⟨za, fa3.2⟩
    try dsimp only
    have s1 := Heap.SameBut.update s''.heap kS (Obj.mapSeq (·.push (.int (kd x) t2)))
    obtain ⟨c2, hc2⟩ : ∃ c2, (s''.heap.update kS (Obj.mapSeq (·.push (.int (kd x) t2)))).get? kS = some (seqObj "list" (kA.push (.int (kd x) t2)) c2) := ⟨_, get?_update_seq nk4 (·.push (.int (kd x) t2))⟩
    have ek : (xs.map kd).take (j + 1) = (xs.map kd).take j ++ [kd x] := by rw [List.take_add_one, List.getElem?_map, hx]; simp
    have ea : (kA.push (Value.int (kd x) t2)).toList = kA.toList ++ [Value.int (kd x) t2] := by simp
    refine wpAny_bind (listUpdate_at nk4 rfl ?_ (by rw [sizeLine_eq]; omega) (Nat.le_trans (Nat.le_of_eq (Array.size_push ..)) (by rw [sizeLine_eq]; omega)))
    have I5 := I4.turnedL (h' := s''.heap.update kS (Obj.mapSeq (·.push (.int (kd x) t2)))) (t' := s''.toks) (ch := [kS]) (fun b o hb e => (s1.2 b (by simpa using hb)).trans e) (fp_one fk4)
    exact wpAny_pure ⟨rfl, H4, kA.push (.int (kd x) t2), c2, s3.trans s34, I5, fk4, fa4, hc2, (s1.2 a hka.symm).trans na4, by rw [ea, ek]; exact ksk_snoc hk⟩
  case done =>
    rintro s' ⟨H3, kA, e, s3, I3, fk3, fa3, nk3, na3, hk⟩
    have hk' : IntsAre kA.toList (xs.map kd) := by
      have e3 : (xs.map kd).take (0 + vs.length) = xs.map kd := List.take_of_length_le (by omega)
      rw [e3] at hk
      exact hk
    try dsimp only
    refine wpAny_bind (listItems_at nk3 rfl ?_)
    refine skey_end (b := false) nk3 na3 hka hk' hlen hZ fun h' tk out c k1 k2 k3 => ?_
    have I4 := I3.turnedL (h' := h') (t' := tk) (ch := [kS, a]) (fun b o hb e => k1 b o (fun z => hb (by rw [z]; simp)) (fun z => hb (by rw [z]; simp)) e) (fp_two fk3 fa3)
    exact h _ H3 out c s3 I4 fa3 k2 k3
theorem mem_zipL {a : Int} {b : Value} : ∀ {xs : List V} {vs : List Value} {kd : V → Int}, Vals xs vs → (a, b) ∈ (xs.map kd).zip vs → ∃ x ∈ xs, RelV x b ∧ a = kd x
  | [], _, _, _, h => by cases h
  | x :: xs, _, kd, .cons r rr, h => by
    rw [List.map_cons, List.zip_cons_cons] at h
    rcases List.mem_cons.mp h with h | h
    · injection h with h1 h2
      subst h1 h2
      exact ⟨x, List.mem_cons_self, r, rfl⟩
    · obtain ⟨y, hy, r2, e⟩ := mem_zipL rr h
      exact ⟨y, List.mem_cons_of_mem _ hy, r2, e⟩
/-- the pairs of key and value, seen as the things they stand for -/
theorem zip_things {kd : V → Int} : ∀ {xs : List V} {vs : List Value}, Vals xs vs → ∀ {ps : List (Int × Value)}, ps.Perm ((xs.map kd).zip vs) → ∃ ys : List V, ys.Perm xs ∧ Vals ys (ps.map Prod.snd) ∧ ys.map kd = ps.map Prod.fst := by
  intro xs vs rv
  have key : ∀ {qs ps : List (Int × Value)}, qs.Perm ps → ∀ ys : List V, Vals ys (qs.map Prod.snd) → ys.map kd = qs.map Prod.fst → ∃ zs : List V, zs.Perm ys ∧ Vals zs (ps.map Prod.snd) ∧ zs.map kd = ps.map Prod.fst := by
    intro qs ps hp
    induction hp with
    | nil => intro ys h1 h2; exact ⟨ys, List.Perm.refl _, h1, h2⟩
    | cons q _ ih =>
      intro ys h1 h2
      rw [List.map_cons] at h1 h2
      cases h1 with
      | cons r rr =>
        rw [List.map_cons] at h2
        injection h2 with h2 h3
        obtain ⟨zs, z1, z2, z3⟩ := ih _ rr h3
        exact ⟨_ :: zs, z1.cons _, by rw [List.map_cons]; exact .cons r z2, by rw [List.map_cons, List.map_cons, z3, h2]⟩
    | swap p q l =>
      intro ys h1 h2
      rw [List.map_cons, List.map_cons] at h1 h2
      cases h1 with
      | cons r rr =>
        cases rr with
        | cons r2 rr2 =>
          rw [List.map_cons, List.map_cons] at h2
          injection h2 with h2 h3
          injection h3 with h3 h4
          exact ⟨_ :: _ :: _, List.Perm.swap _ _ _, by rw [List.map_cons, List.map_cons]; exact .cons r2 (.cons r rr2), by rw [List.map_cons, List.map_cons, List.map_cons, List.map_cons, h2, h3, h4]⟩
    | trans _ _ ih1 ih2 =>
      intro ys h1 h2
      obtain ⟨zs, z1, z2, z3⟩ := ih1 ys h1 h2
      obtain ⟨ws, w1, w2, w3⟩ := ih2 zs z2 z3
      exact ⟨ws, w1.trans z1, w2, w3⟩
  intro ps hp
  have hl : (xs.map kd).length = vs.length := by rw [List.length_map, rv.length]
  exact key hp.symm xs (by rw [List.map_snd_zip (Nat.le_of_eq hl.symm)]; exact rv) (by rw [List.map_fst_zip (Nat.le_of_eq hl)])
theorem skey_call {A : Around} {f l : Addr} {H2 : Hp} {xs : List V} {lt : Bool} {kd : V → Int} {s : Shared} {pins : List (Addr × Obj)} {Q : VK} {E : Value → Shared → Prop} (hh : A.handled = none) (hs : SqE X.K H2 lt l xs) (turn : ∀ x ∈ xs, Asks X σ A.in1.in1 f H2 x (.int (kd x)))
    (I : Inv X pins σ H2 s) (q : ∀ ys p H3, ys.Perm xs → ys.Pairwise (fun x y => kd x ≤ kd y) → Same H2 H3 → H3 p = none → Q (.ref p) (upd H3 p (.lst ys))) :
    wpAny (model X.prog X.w) A (call (.builtin "sorted") [.ref l] [(Str.ofString "key", .ref f)]) (EP X pins σ Q) E s := by
  refine call_function_entry_kw kind_sorted plain_sorted entry_sorted (ksk_s1 _ _) ?_
  unfold Builtin.«sorted»
  refine wpAny_bind (m := checkCount "sorted" 1 1 _) (wpAny_pure ?_)
  obtain ⟨its, rv, hz, hcol⟩ : ∃ its : List Value, Vals xs its ∧ its.length ≤ sizeLine ∧ ∀ (R : List Value → Shared → Prop), (∀ acc (h' : Heap) tk, acc = its → (∀ b o, s.heap.get? b = some o → h'.get? b = some o) → R acc { s with heap := h', toks := tk }) → wpAny (model X.prog X.w) A.in1 (collect (.ref l)) R E s := by
    cases lt with
    | true =>
      obtain ⟨its, rv, hl, hz⟩ := I.list hs
      refine ⟨its, rv, by rw [← rv.length]; exact hz, fun R h => ?_⟩
      refine collect_list hl.isList (h _ _ s.toks rfl fun b o e => ?_) (by rw [← rv.length]; exact hz)
      have hlt : b < s.heap.objs.size := Heap.lt_size e
      rw [Heap.get?_update_ne _ _ _ _ (Nat.ne_of_lt hlt)]
      exact Heap.get?_push_of_some _ e
    | false =>
      obtain ⟨its, rv, hl, hz⟩ := I.tuple hs
      refine ⟨its, rv, by rw [← rv.length]; exact hz, fun R h => ?_⟩
      refine collect_tup hl (by rw [← rv.length]; exact hz) (h _ _ s.toks rfl fun b o e => ?_)
      have hlt : b < s.heap.objs.size := Heap.lt_size e
      rw [Heap.get?_update_ne _ _ _ _ (Nat.ne_of_lt hlt)]
      exact Heap.get?_push_of_some _ e
  refine wpAny_bind (hcol _ fun acc h1 tk1 eacc k1 => ?_)
  subst eacc
  refine wpAny_bind (wpAny_newList ?_ hz)
  have I1 : Inv X pins σ H2 { s with heap := h1, toks := tk1 } := I.kept k1
  generalize hs1 : ({ s with heap := h1, toks := tk1 } : Shared) = s1 at I1 ⊢
  have hhp : s1.heap = h1 := by rw [← hs1]
  show wpAny _ _ _ _ _ { s1 with heap := s1.heap.push (seqObj "list" acc.toArray 0) }
  have e0 : ({ s with heap := h1.push (seqObj "list" acc.toArray 0), toks := tk1 } : Shared) = { s1 with heap := s1.heap.push (seqObj "list" acc.toArray 0) } := by rw [← hs1]
  have I2 : Inv X pins σ H2 { s1 with heap := s1.heap.push (seqObj "list" acc.toArray 0) } := I1.kept (t' := s1.toks) fun b o e => Heap.get?_push_of_some _ e
  have fL : FpOk X pins H2 s1.heap.objs.size := I1.fpOk (Nat.le_refl _) (I1.hok.fresh (Nat.le_refl _))
  have gL : (s1.heap.push (seqObj "list" acc.toArray 0)).get? s1.heap.objs.size = some (seqObj "list" acc.toArray 0) := Heap.get?_push_size _ rfl
  generalize hL : s1.heap.objs.size = L at fL gL
  generalize hs2 : ({ s1 with heap := s1.heap.push (seqObj "list" acc.toArray 0) } : Shared) = s2 at I2 ⊢
  have gL : s2.heap.get? L = some (seqObj "list" acc.toArray 0) := by rw [← hs2]; exact gL
  refine wpAny_bind (wpAny_holding (wpAny_call_entry_kw slot_list_sort ⟨_, gL, rfl⟩ entry_list_sort ?body (ksk_l1 _ _)))
  case body =>
    show wpAny (model X.prog X.w) A.in1.in1 (Builtin.«list.sort» ⟨[.ref L], [(Str.ofString "key", .ref f)]⟩) _ _ _
    rw [ksk_t1]
    unfold ksk_tree
    obtain ⟨e1, ho1⟩ : ∃ e1, (s2.heap.update L (Obj.mapSeq fun _ => (#[] : Array Value))).get? L = some (seqObj "list" #[] e1) := ⟨_, get?_update_seq gL fun _ => #[]⟩
    have u1 := Heap.SameBut.update s2.heap L (Obj.mapSeq fun _ => (#[] : Array Value))
    refine wpAny_bind (listItems_at gL rfl ?_)
    refine wpAny_bind (listUpdate_at gL rfl ?_ (by rw [List.size_toArray]; exact hz) (Nat.zero_le _))
    refine wpAny_bind (seqEpoch_at ho1 rfl ?_)
    refine wpAny_bind (wpAny_newTuple ?_ (by show acc.length ≤ _; exact hz))
    refine wpAny_bind (wpAny_newList ?_ (Nat.zero_le _))
    refine wpAny_holding ?_
    have I3 := I2.turnedL (h' := s2.heap.update L (Obj.mapSeq fun _ => (#[] : Array Value))) (t' := s2.toks) (ch := [L]) (fun b o hb e => (u1.2 b (by simpa using hb)).trans e) (fp_one fL)
    have I4 : Inv X pins σ H2 { s2 with heap := ((s2.heap.update L (Obj.mapSeq fun _ => (#[] : Array Value))).push (seqObj "tuple" acc.toArray 0)).push (seqObj "list" #[] 0) } := I3.kept (t' := s2.toks) fun b o e => Heap.get?_push_of_some _ (Heap.get?_push_of_some _ e)
    have hk2 : ((s2.heap.update L (Obj.mapSeq fun _ => (#[] : Array Value))).push (seqObj "tuple" acc.toArray 0)).objs.size = s2.heap.objs.size + 1 := by rw [size_push', Heap.size_update]
    have gk : (((s2.heap.update L (Obj.mapSeq fun _ => (#[] : Array Value))).push (seqObj "tuple" acc.toArray 0)).push (seqObj "list" #[] 0)).get? ((s2.heap.update L (Obj.mapSeq fun _ => (#[] : Array Value))).push (seqObj "tuple" acc.toArray 0)).objs.size = some (seqObj "list" #[] 0) := Heap.get?_push_size _ rfl
    have fk : FpOk X pins H2 ((s2.heap.update L (Obj.mapSeq fun _ => (#[] : Array Value))).push (seqObj "tuple" acc.toArray 0)).objs.size := I2.fpOk (by rw [hk2]; exact Nat.le_succ _) (I2.hok.fresh (by rw [hk2]; exact Nat.le_succ _))
    have hlt : L < s2.heap.objs.size := Heap.lt_size gL
    refine skey_rest (s := { s2 with heap := ((s2.heap.update L (Obj.mapSeq fun _ => (#[] : Array Value))).push (seqObj "tuple" acc.toArray 0)).push (seqObj "list" #[] 0) }) turn rv hz I4 fk fL (by rw [hk2]; exact Nat.ne_of_gt (Nat.lt_succ_of_lt hlt)) gk (Heap.get?_push_of_some _ (Heap.get?_push_of_some _ ho1)) fun s' H3 out c s3 I5 fa5 ga ko => ⟨_, rfl, ?_⟩
    obtain ⟨ps, hp, ho, hsr⟩ := ko
    obtain ⟨ys, y1, y2, y3⟩ := zip_things rv hp
    have hy : ys.Pairwise (fun x y => kd x ≤ kd y) := by
      have h1 : (ys.map kd).Pairwise (· ≤ ·) := by
        rw [y3, List.pairwise_map]
        exact hsr.imp fun {p q} z => z
      rw [List.pairwise_map] at h1
      exact h1
    rw [← ho] at y2
    have ye : ys.length ≤ sizeLine := by
      rw [y1.length_eq, rv.length]
      exact hz
    have I6 : Inv X pins σ (upd H3 L (.lst ys)) { s' with heap := s'.heap, toks := s'.toks } := I5.take (fun b ob _ e => e) fa5 ⟨ye, out.toList, c, y2, by rw [Array.toArray_toList]; exact ga⟩
    exact wpAny_pure ⟨_, rfl, .ref L, upd H3 L (.lst ys), I6, rfl, q ys L H3 y1 hy s3 fa5.1⟩
end
end Ef
set_option maxHeartbeats 4000000
namespace Ef
open PySem PySem.Spec PyProof.Rows L2 LamX NdefX
open PySem.W (dataLt rcLt_alike rcGt_alike)
/-! ### the rules -/
theorem alike_int (a b : Int) : PySem.W.alike (.int a) (.int b) = true := rfl
theorem keys_int {g : Nat → Int} {n : Nat} : Keys (fun i => .int (g i)) n := ⟨fun _ _ _ _ => rfl, fun _ _ => (fun z => by cases z), fun _ _ => Nat.zero_le _⟩
theorem lt_int_false {a b : Int} (h : PySem.W.dataLt (.int a) (.int b) = false) : b ≤ a := by
  rw [PySem.W.dataLt_int] at h
  have := of_decide_eq_false h
  omega
theorem u9_of {k : Nat} {A : Around} (hr : Room k A) : A.units + 9 < cLine := by
  have := hr.un
  omega
theorem u64_of {k : Nat} {A : Around} (hr : Room k A) : A.units + 64 < cLine := by
  have := hr.un
  omega
section
variable {α : Type} {P P2 P3 : Addr} {q q2 q3 : α}
theorem huG1 : ∀ p ∈ [(P, q)], p.1 = P → p.2 = q := fun p hp _ => by
  rw [List.mem_singleton.mp hp]
theorem huG2a (ne : P ≠ P2) : ∀ p ∈ [(P, q), (P2, q2)], p.1 = P → p.2 = q := fun p hp e => by
  simp only [List.mem_cons, List.not_mem_nil, or_false] at hp
  rcases hp with rfl | rfl
  · rfl
  · exact absurd e.symm ne
theorem huG2b (ne : P ≠ P2) : ∀ p ∈ [(P, q), (P2, q2)], p.1 = P2 → p.2 = q2 := fun p hp e => by
  simp only [List.mem_cons, List.not_mem_nil, or_false] at hp
  rcases hp with rfl | rfl
  · exact absurd e ne
  · rfl
theorem huG3a (n2 : P ≠ P2) (n3 : P ≠ P3) : ∀ p ∈ [(P, q), (P2, q2), (P3, q3)], p.1 = P → p.2 = q := fun p hp e => by
  simp only [List.mem_cons, List.not_mem_nil, or_false] at hp
  rcases hp with rfl | rfl | rfl
  · rfl
  · exact absurd e.symm n2
  · exact absurd e.symm n3
theorem huG3b (n1 : P ≠ P2) (n3 : P2 ≠ P3) : ∀ p ∈ [(P, q), (P2, q2), (P3, q3)], p.1 = P2 → p.2 = q2 := fun p hp e => by
  simp only [List.mem_cons, List.not_mem_nil, or_false] at hp
  rcases hp with rfl | rfl | rfl
  · exact absurd e n1
  · rfl
  · exact absurd e.symm n3
theorem huG3c (n1 : P ≠ P3) (n2 : P2 ≠ P3) : ∀ p ∈ [(P, q), (P2, q2), (P3, q3)], p.1 = P3 → p.2 = q3 := fun p hp e => by
  simp only [List.mem_cons, List.not_mem_nil, or_false] at hp
  rcases hp with rfl | rfl | rfl
  · exact absurd e n1
  · exact absurd e n2
  · rfl
end
section
variable {P : Program} {w : World} {K : PySem.W.Frag} {mg : Str → Option Value} {base : Heap}
/-- a def that makes functions (no exception leaves it) -/
theorem Fun_okC {x qual : Str} {st : Stmt} {f c : Addr} {fd : FuncData} {N ps : List Str} {k : Nat} {sp : Sp} (F : Fun K x qual st f fd) (co : CodeOf K f c) (S : FnScope N ps (defScope st)) (len : ∀ vs H Q E, sp vs H Q E → vs.length = ps.length)
    (bod : ∀ (A : Around) (outer : List Env) (s : Shared) (H : Hp) (vs : List V) (Q : VK) (E : XK), Room k (A.deeper (envOfC qual (defScope st) s.heap.objs.size f (.ref c))) → sp vs H Q E →
      ∃ t, PSs (cxOf CX0 P w K mg base N qual (defScope st) f (.ref c) A outer s H E).nox (defBody st) t ∧ t { nx := fun _ H' => Q .non H', rt := Q } (start N vs) H) :
    FnOk P w K mg base CX0 (k + 1) f fd ps sp := by
  obtain ⟨oc, od, kV, doc, pm, an, cdv, ct, osl, rfl, lk, hcd⟩ := F.ex
  obtain ⟨o, fd2, e1, e2, e3⟩ := co
  have ecd : cdv = .ref c := by
    rw [lk] at e1
    obtain rfl := Option.some.inj e1
    cases e2
    exact e3
  subst ecd
  refine ⟨len, fun A outer s H args us vs Q E room e0 bnd rel wish => ?_⟩
  refine run_ofS (N := N) (ps := ps) lk hcd S room e0 bnd rel (len _ _ _ _ wish) fun hr => ?_
  obtain ⟨t, pt, rd⟩ := bod A outer s H vs Q E hr wish
  exact ⟨t, pt.nox, rd⟩
end
/-- min or max (mx) of what t gives, by a lambda with the body's reading tb; N, js: the lambda's names, where the captured ones stand -/
def tKeyLam (K : PySem.W.Frag) (T : List NTab) (mx : Bool) (dn : Bool) (N : List Str) (js : List Nat) (tb : TE) (t : TA) : TE := fun σ H Q => t σ H fun vs H1 => TabsN T H1 ∧ ∀ H2, ExtN H1 H2 → (∀ b, H2 b = Option.none → H1 b = Option.none) → TabsN T H2 →
  ∃ (a : Addr) (xs : List V) (kd : Nat → PyData), vs = [.ref a] ∧ (SqL K H2 a xs ∨ SqT K H2 a xs) ∧ cond dn (xs = [] → Q .non H2) (0 < xs.length) ∧ Keys kd xs.length ∧ (∀ i x, xs[i]? = some x → ∀ H3, Same H2 H3 → tb (startF N [x] (js.map (slotAt σ))) H3 fun v H4 => Same H3 H4 ∧ Dp K H4 v (kd i)) ∧
    ∀ i x H3, xs[i]? = some x → (∀ j < xs.length, cond mx (dataLt (kd i) (kd j)) (dataLt (kd j) (kd i)) = false) → Same H2 H3 → Q x H3
section
variable {X : Cx}
theorem asks_lam {σ : L2.St} {k : Nat} {N ps fr : List Str} {js : List Nat} {f : Addr} {F : NF} {body : Expr} {tb : TE} {H2 : Hp} {x : V} {kd : PyData} (A : Around) (S : NScope N ps fr F.scope) (hr : Room (k + 1) A) (he : ∀ {s H}, Env0 X.prog X.w X.K X.mg X.base X.A X.stack s H → Env0 X.prog X.w X.K X.mg X.base A X.stack s H)
    (hb : ∀ (pm ctv : Value) (us : List Value), us.length = ps.length → bindArgs (PySem.W.kla_fn "<lambda>" F.qual F.params body F.scope F.cl pm (.ref F.c) ctv) ⟨us, []⟩ = pure (ps.zip us)) (hps : ps.length = 1) (cp : X.Ok → Caps X F.cl fr js)
    (hf : H2 f = some (LmO f F body)) (hc : H2 F.c = some (CodeO F.c F.qual))
    (hbody : ∀ (A : Around) (outer : List Env) (s : Shared) (H : Hp), Room k (A.deeper (envF F f s.heap.objs.size)) → PE (ncx CX0 X.prog X.w X.K X.mg X.base N F f A outer s H fun _ _ _ => False) body tb)
    (q : ∀ H3, Same H2 H3 → tb (startF N [x] (js.map (slotAt σ))) H3 fun v H4 => Same H3 H4 ∧ Dp X.K H4 v kd) : Asks X σ A f H2 x kd := fun pins s H3 u s3 I3 ru =>
  lam_run S hr (he I3.env0) hb I3 (s3 _ _ hf) (s3 _ _ hc) (cells_of I3 (cp I3.ok)) (.cons ru .nil) (by rw [hps]; rfl) (fun hr' => hbody A X.stack s H3 hr') (q H3 s3)
variable {T : List NTab} {nm : Nat → Nat → Str} {c P : Addr} {params : Arguments} {body : Expr} {scope : Scope} {lpos p pos kpos dpos cpos : Pos} {k : Nat} {N fr : List Str} {js : List Nat} {y : Str} {e : Expr} {t : TA} {tb : TE} {cst : Nat}
theorem pe_minLam (TB : TabB X.base X.mg c P) (hcode : X.env.code = .ref c) (hm : (P, nm) ∈ T) (hn : nm lpos.line lpos.col = X.env.qual ++ "<lambda>") (hu : ∀ p ∈ T, p.1 = P → p.2 = nm) (S : NScope N [y] fr scope) (hbn : ndefB X.env.scope scope fr = true) (hjs : js.map (fun j => X.N[j]?) = fr.map some)
    (hr : Room (k + 2) X.A) (hg : Gl X "min") (hM : X.mg "min" = none) (ha : PA X [e] t)
    (hbody : ∀ (f c' : Addr) (A : Around) (outer : List Env) (s : Shared) (H : Hp), Room k (A.deeper (envF ⟨"<lambda>", X.env.qual ++ "<lambda>", params, [], scope, cloFrom X.env.cells scope.names [], c'⟩ f s.heap.objs.size)) →
      PE (ncx CX0 X.prog X.w X.K X.mg X.base N ⟨"<lambda>", X.env.qual ++ "<lambda>", params, [], scope, cloFrom X.env.cells scope.names [], c'⟩ f A outer s H fun _ _ _ => False) body tb)
    (hbind : ∀ (q : Str) (cl : List (Str × Addr)) (pm cv ctv : Value) (u : Value), bindArgs (PySem.W.kla_fn "<lambda>" q params body scope cl pm cv ctv) ⟨[u], []⟩ = pure [(y, u)] := by intros; rfl) (hdef : defaultsOf params X.env = ([], []) := by rfl)
    (he : backTo pos (starEach [e] X.env) = (false, eval e X.env) :: backTo pos (starEach [] X.env) := by rfl) (hpl : (backTo pos (starEach [e] X.env)).any (·.1) = false := by rfl) :
    PE X (.Call (.Name "min" p) [e] [⟨some "key", .Lambda params body scope lpos, kpos⟩] pos) (tKeyLam X.K T false false N js tb t) := by
  refine ⟨fun pins s σ H Q I h => ?_⟩
  refine wpAny_Call_Name_kw (ld_blt (u := .builtin "min") I hg hM (by decide +kernel) ?_ (by decide) (by decide))
  have hk := pk_cons (nm := some "key") (kpos := kpos) (pe_lamV (body := body) (pos := lpos) TB hcode hm hn hu (ndef_free hbn) hdef) (pk_nil (X := X))
  refine callWith_kw (thn (ha.run pos pins s σ H _ I h) fun us s1 ⟨vs, H1, I1, r1, hT, q1⟩ => thn (hk.run pos pins s1 σ H1 (fun zs H2 => ∃ f c', zs = [.ref f] ∧ ExtN H1 H2 ∧ (∀ b, H2 b = Option.none → H1 b = Option.none) ∧ TabsN T H2 ∧ H2 f = some (LmO f ⟨"<lambda>", X.env.qual ++ "<lambda>", params, [], scope, cloFrom X.env.cells scope.names [], c'⟩ body) ∧ H2 c' = some (CodeO c' (X.env.qual ++ "<lambda>"))) I1
    ⟨hT, fun f c' H2 eN nn T1 f0 f1 c1 => ⟨f, c', rfl, eN, nn, T1, f1, c1⟩⟩) fun ws s2 ⟨zs, H2, I2, r2, f, c', ez, eN, nn, T1, f1, c1⟩ => ?_) he hpl rfl rfl
  subst ez
  obtain rfl := Vals.ref1 r2
  obtain ⟨a, xs, kd, rfl, hs, hne, hks, hturn, q⟩ := q1 H2 eN nn T1
  obtain rfl := Vals.ref1 r1
  obtain ⟨lt, hs⟩ := sqE_of hs
  have fin := minK_call (X := X) (σ := σ) (A := X.A) (f := f) (kw := [(Str.ofString "key", .ref f)]) (dv := none) (Q := Q) (E := X.xe) hr.hd (by have := hr.units; omega) hs (fun i x hx => asks_lam X.A.in1 S hr.in1 (fun z => z.in1) (fun pm ctv us hl => by
    match us, hl with
    | [u], _ => exact hbind _ _ pm _ ctv u) rfl (fun ok => Caps.made ok (ndef_free hbn) (ndef_fr hbn) hjs) f1 c1 (fun A outer s H hr' => hbody f c' A outer s H hr') (hturn i x hx)) hks (.inl ⟨rfl, hne⟩) I2 (fun i x H3 hx hb s3 => q i x H3 hx hb s3)
  exact fin
theorem pe_minLamN (TB : TabB X.base X.mg c P) (hcode : X.env.code = .ref c) (hm : (P, nm) ∈ T) (hn : nm lpos.line lpos.col = X.env.qual ++ "<lambda>") (hu : ∀ p ∈ T, p.1 = P → p.2 = nm) (S : NScope N [y] fr scope) (hbn : ndefB X.env.scope scope fr = true) (hjs : js.map (fun j => X.N[j]?) = fr.map some)
    (hr : Room (k + 2) X.A) (hg : Gl X "min") (hM : X.mg "min" = none) (ha : PA X [e] t)
    (hbody : ∀ (f c' : Addr) (A : Around) (outer : List Env) (s : Shared) (H : Hp), Room k (A.deeper (envF ⟨"<lambda>", X.env.qual ++ "<lambda>", params, [], scope, cloFrom X.env.cells scope.names [], c'⟩ f s.heap.objs.size)) →
      PE (ncx CX0 X.prog X.w X.K X.mg X.base N ⟨"<lambda>", X.env.qual ++ "<lambda>", params, [], scope, cloFrom X.env.cells scope.names [], c'⟩ f A outer s H fun _ _ _ => False) body tb)
    (hbind : ∀ (q : Str) (cl : List (Str × Addr)) (pm cv ctv : Value) (u : Value), bindArgs (PySem.W.kla_fn "<lambda>" q params body scope cl pm cv ctv) ⟨[u], []⟩ = pure [(y, u)] := by intros; rfl) (hdef : defaultsOf params X.env = ([], []) := by rfl)
    (he : backTo pos (starEach [e] X.env) = (false, eval e X.env) :: backTo pos (starEach [] X.env) := by rfl) (hpl : (backTo pos (starEach [e] X.env)).any (·.1) = false := by rfl) :
    PE X (.Call (.Name "min" p) [e] [⟨some "key", .Lambda params body scope lpos, kpos⟩, ⟨some "default", .Constant .none cst cpos, dpos⟩] pos) (tKeyLam X.K T false true N js tb t) := by
  refine ⟨fun pins s σ H Q I h => ?_⟩
  refine wpAny_Call_Name_kw (ld_blt (u := .builtin "min") I hg hM (by decide +kernel) ?_ (by decide) (by decide))
  have hk := pk_cons (nm := some "key") (kpos := kpos) (pe_lamV (body := body) (pos := lpos) TB hcode hm hn hu (ndef_free hbn) hdef) (pk_cons (e := .Constant .none cst cpos) (nm := some "default") (kpos := dpos) (pe_non (X := X) (pos := cpos)) (pk_nil (X := X)))
  refine callWith_kw (thn (ha.run pos pins s σ H _ I h) fun us s1 ⟨vs, H1, I1, r1, hT, q1⟩ => thn (hk.run pos pins s1 σ H1 (fun zs H2 => ∃ f c', zs = [.ref f, .non] ∧ ExtN H1 H2 ∧ (∀ b, H2 b = Option.none → H1 b = Option.none) ∧ TabsN T H2 ∧ H2 f = some (LmO f ⟨"<lambda>", X.env.qual ++ "<lambda>", params, [], scope, cloFrom X.env.cells scope.names [], c'⟩ body) ∧ H2 c' = some (CodeO c' (X.env.qual ++ "<lambda>"))) I1
    ⟨hT, fun f c' H2 eN nn T1 f0 f1 c1 => ⟨f, c', rfl, eN, nn, T1, f1, c1⟩⟩) fun ws s2 ⟨zs, H2, I2, r2, f, c', ez, eN, nn, T1, f1, c1⟩ => ?_) he hpl rfl rfl
  subst ez
  obtain ⟨w1, w2, rfl, e1, e2⟩ := vals2 r2
  obtain rfl : w1 = Value.ref f := e1
  obtain rfl : w2 = Value.none := e2
  obtain ⟨a, xs, kd, rfl, hs, hne, hks, hturn, q⟩ := q1 H2 eN nn T1
  obtain rfl := Vals.ref1 r1
  obtain ⟨lt, hs⟩ := sqE_of hs
  have fin := minK_call (X := X) (σ := σ) (A := X.A) (f := f) (kw := [(Str.ofString "key", .ref f), (Str.ofString "default", .none)]) (dv := none) (Q := Q) (E := X.xe) hr.hd (by have := hr.units; omega) hs (fun i x hx => asks_lam X.A.in1 S hr.in1 (fun z => z.in1) (fun pm ctv us hl => by
    match us, hl with
    | [u], _ => exact hbind _ _ pm _ ctv u) rfl (fun ok => Caps.made ok (ndef_free hbn) (ndef_fr hbn) hjs) f1 c1 (fun A outer s H hr' => hbody f c' A outer s H hr') (hturn i x hx)) hks (.inr ⟨.non, .none, rfl, rfl, hne⟩) I2 (fun i x H3 hx hb s3 => q i x H3 hx hb s3)
  exact fin
theorem pe_maxLam (TB : TabB X.base X.mg c P) (hcode : X.env.code = .ref c) (hm : (P, nm) ∈ T) (hn : nm lpos.line lpos.col = X.env.qual ++ "<lambda>") (hu : ∀ p ∈ T, p.1 = P → p.2 = nm) (S : NScope N [y] fr scope) (hbn : ndefB X.env.scope scope fr = true) (hjs : js.map (fun j => X.N[j]?) = fr.map some)
    (hr : Room (k + 2) X.A) (hg : Gl X "max") (hM : X.mg "max" = none) (ha : PA X [e] t)
    (hbody : ∀ (f c' : Addr) (A : Around) (outer : List Env) (s : Shared) (H : Hp), Room k (A.deeper (envF ⟨"<lambda>", X.env.qual ++ "<lambda>", params, [], scope, cloFrom X.env.cells scope.names [], c'⟩ f s.heap.objs.size)) →
      PE (ncx CX0 X.prog X.w X.K X.mg X.base N ⟨"<lambda>", X.env.qual ++ "<lambda>", params, [], scope, cloFrom X.env.cells scope.names [], c'⟩ f A outer s H fun _ _ _ => False) body tb)
    (hbind : ∀ (q : Str) (cl : List (Str × Addr)) (pm cv ctv : Value) (u : Value), bindArgs (PySem.W.kla_fn "<lambda>" q params body scope cl pm cv ctv) ⟨[u], []⟩ = pure [(y, u)] := by intros; rfl) (hdef : defaultsOf params X.env = ([], []) := by rfl)
    (he : backTo pos (starEach [e] X.env) = (false, eval e X.env) :: backTo pos (starEach [] X.env) := by rfl) (hpl : (backTo pos (starEach [e] X.env)).any (·.1) = false := by rfl) :
    PE X (.Call (.Name "max" p) [e] [⟨some "key", .Lambda params body scope lpos, kpos⟩] pos) (tKeyLam X.K T true false N js tb t) := by
  refine ⟨fun pins s σ H Q I h => ?_⟩
  refine wpAny_Call_Name_kw (ld_blt (u := .builtin "max") I hg hM (by decide +kernel) ?_ (by decide) (by decide))
  have hk := pk_cons (nm := some "key") (kpos := kpos) (pe_lamV (body := body) (pos := lpos) TB hcode hm hn hu (ndef_free hbn) hdef) (pk_nil (X := X))
  refine callWith_kw (thn (ha.run pos pins s σ H _ I h) fun us s1 ⟨vs, H1, I1, r1, hT, q1⟩ => thn (hk.run pos pins s1 σ H1 (fun zs H2 => ∃ f c', zs = [.ref f] ∧ ExtN H1 H2 ∧ (∀ b, H2 b = Option.none → H1 b = Option.none) ∧ TabsN T H2 ∧ H2 f = some (LmO f ⟨"<lambda>", X.env.qual ++ "<lambda>", params, [], scope, cloFrom X.env.cells scope.names [], c'⟩ body) ∧ H2 c' = some (CodeO c' (X.env.qual ++ "<lambda>"))) I1
    ⟨hT, fun f c' H2 eN nn T1 f0 f1 c1 => ⟨f, c', rfl, eN, nn, T1, f1, c1⟩⟩) fun ws s2 ⟨zs, H2, I2, r2, f, c', ez, eN, nn, T1, f1, c1⟩ => ?_) he hpl rfl rfl
  subst ez
  obtain rfl := Vals.ref1 r2
  obtain ⟨a, xs, kd, rfl, hs, hne, hks, hturn, q⟩ := q1 H2 eN nn T1
  obtain rfl := Vals.ref1 r1
  obtain ⟨lt, hs⟩ := sqE_of hs
  have fin := maxK_call (X := X) (σ := σ) (A := X.A) (f := f) (kw := [(Str.ofString "key", .ref f)]) (dv := none) (Q := Q) (E := X.xe) hr.hd (by have := hr.units; omega) hs (fun i x hx => asks_lam X.A.in1 S hr.in1 (fun z => z.in1) (fun pm ctv us hl => by
    match us, hl with
    | [u], _ => exact hbind _ _ pm _ ctv u) rfl (fun ok => Caps.made ok (ndef_free hbn) (ndef_fr hbn) hjs) f1 c1 (fun A outer s H hr' => hbody f c' A outer s H hr') (hturn i x hx)) hks (.inl ⟨rfl, hne⟩) I2 (fun i x H3 hx hb s3 => q i x H3 hx hb s3)
  exact fin
end
/-- sorted(e, key=f), f a name that holds a function made by mk; its key is an int -/
def tSortN (K : PySem.W.Frag) (mk : Addr → NF) (i : Nat) (js : List Nat) (sp : Addr → Addr → List (Option V) → Sp) (t : TA) : TE := fun σ H Q => t σ H fun vs H1 => ∃ (a f c' : Addr) (xs : List V) (kd : V → Int), vs = [.ref a] ∧ σ[i]? = some (some (.ref f)) ∧ H1 f = some (FnO f (mk c')) ∧ H1 (mk c').c = some (CodeO (mk c').c (mk c').qual) ∧
  (SqL K H1 a xs ∨ SqT K H1 a xs) ∧ (∀ x ∈ xs, ∀ H3, Same H1 H3 → sp f c' (js.map (slotAt σ)) [x] H3 (fun v H4 => Same H3 H4 ∧ v = .int (kd x)) fun _ _ _ => False) ∧
  ∀ ys p H3, ys.Perm xs → ys.Pairwise (fun x y => kd x ≤ kd y) → Same H1 H3 → H3 p = none → Q (.ref p) (upd H3 p (.lst ys))
section
variable {X : Cx} {mk : Addr → NF} {cl : List (Str × Addr)} {ps fr : List Str} {js : List Nat} {i k : Nat} {x : Str} {sp : Addr → Addr → List (Option V) → Sp} {t : TA} {e : Expr} {p pos kpos npos : Pos}
theorem pe_sortN (Fn : ∀ f c', NOk X.prog X.w X.K X.mg X.base CX0 k f (mk c') ps fr (sp f c')) (hcl : ∀ c', (mk c').cl = cl) (cp : X.Ok → Caps X cl fr js) (hr : Room (k + 2) X.A) (hg : Gl X "sorted") (hM : X.mg "sorted" = none) (hN : X.N[i]? = some x) (hv : Vis X.env.scope x) (ha : PA X [e] t)
    (hd : (x == ("__debug__" : Str)) = false := by decide) (hcd : (x == ("__classdict__" : Str)) = false := by decide)
    (he : backTo pos (starEach [e] X.env) = (false, eval e X.env) :: backTo pos (starEach [] X.env) := by rfl) (hpl : (backTo pos (starEach [e] X.env)).any (·.1) = false := by rfl) :
    PE X (.Call (.Name "sorted" p) [e] [⟨some "key", .Name x npos, kpos⟩] pos) (tSortN X.K mk i js sp t) := by
  refine ⟨fun pins s σ H Q I h => ?_⟩
  refine wpAny_Call_Name_kw (ld_blt (u := .builtin "sorted") I hg hM (by decide +kernel) ?_ (by decide) (by decide))
  have hk := pk_cons (nm := some "key") (kpos := kpos) (pe_var (X := X) (pos := npos) (i := i) hN hv hd hcd) (pk_nil (X := X))
  refine callWith_kw (thn (ha.run pos pins s σ H _ I h) fun us s1 ⟨vs, H1, I1, r1, a, f, c', xs, kd, ev, hs, hf, hc, hsq, hturn, q⟩ => thn (hk.run pos pins s1 σ H1 (fun zs H2 => zs = [.ref f] ∧ H2 = H1) I1 ⟨.ref f, hs, rfl, rfl⟩) fun ws s2 ⟨zs, H2, I2, r2, ez, eH⟩ => ?_) he hpl rfl rfl
  subst ez eH ev
  obtain rfl := Vals.ref1 r2
  obtain rfl := Vals.ref1 r1
  obtain ⟨lt, hsq⟩ := sqE_of hsq
  refine skey_call (X := X) (σ := σ) (A := X.A) (kd := kd) hr.hd hsq (fun x hx pins s H3 u s3 I3 ru => ?_) I2 q
  have C : CellsAt (mk c').cl fr (js.map (slotAt σ)) s.heap H3 := by
    rw [hcl c']
    exact cells_of I3 (cp I3.ok)
  refine wpAny_call (codeAny_mono ((Fn f c').run X.A.in1.in1 X.stack s H3 [u] [x] _ _ (fun _ _ _ => False) hr.in1.in1 I3.env0.in1.in1 (s3 _ _ hf) (s3 _ _ hc) C (.cons ru .nil) (hturn x hx H3 s3)) fun r s' hq => ?_)
  cases r with
  | error e => exact hq
  | ok fl =>
    cases fl with
    | ret u =>
      obtain ⟨v, H', I', rv, s34, e⟩ := I3.after hq
      subst e
      exact ⟨_, H', I', rv, s34, .int _⟩
    | next => exact False.elim hq
    | brk => exact False.elim hq
    | cont => exact False.elim hq
theorem pe_sortNd {name qual : Str} {params : Arguments} {body : List Stmt} {scope : Scope} (Fn : ∀ f c' cl, NOk X.prog X.w X.K X.mg X.base CX0 k f ⟨name, qual, params, body, scope, cl, c'⟩ ps fr (sp f c')) (hbn : ndefB X.env.scope scope fr = true) (hjs : js.map (fun j => X.N[j]?) = fr.map some) (hr : Room (k + 2) X.A) (hg : Gl X "sorted") (hM : X.mg "sorted" = none) (hN : X.N[i]? = some x) (hv : Vis X.env.scope x) (ha : PA X [e] t)
    (hd : (x == ("__debug__" : Str)) = false := by decide) (hcd : (x == ("__classdict__" : Str)) = false := by decide)
    (he : backTo pos (starEach [e] X.env) = (false, eval e X.env) :: backTo pos (starEach [] X.env) := by rfl) (hpl : (backTo pos (starEach [e] X.env)).any (·.1) = false := by rfl) :
    PE X (.Call (.Name "sorted" p) [e] [⟨some "key", .Name x npos, kpos⟩] pos) (tSortN X.K (fun c' => ⟨name, qual, params, body, scope, cloFrom X.env.cells scope.names [], c'⟩) i js sp t) :=
  pe_sortN (mk := fun c' => ⟨name, qual, params, body, scope, cloFrom X.env.cells scope.names [], c'⟩) (fun f c' => Fn f c' _) (fun _ => rfl) (fun ok => Caps.made ok (ndef_free hbn) (ndef_fr hbn) hjs) hr hg hM hN hv ha hd hcd he hpl
end
end Ef
set_option maxHeartbeats 4000000
namespace Ef
open PySem PySem.Spec PyProof.Rows L2 LamX NdefX
open PySem.W (dataLt rcLt_alike rcGt_alike)
/-! ### min by a key: the first of the least -/
theorem lt_fst {a b c : PyData} (h1 : dataLt a b = true) (h2 : dataLt c b = false) : dataLt a c = true := by
  cases h : dataLt a c with
  | true => rfl
  | false =>
    have := lt_tr h h2
    rw [h1] at this
    cases this
section
variable {X : Cx} {σ : L2.St} {K : PySem.W.Frag}
theorem minF_loop {A : Around} {f l : Addr} {H2 : Hp} {xs : List V} {lt : Bool} {kd : Nat → PyData} {kw : List (Str × Value)} {R : Result → Shared → Prop} {pins : List (Addr × Obj)} {Q : VK} (hh : A.handled = none) (hu : A.units + 60 < cLine) (hs : SqE X.K H2 lt l xs) (turn : ∀ i x, xs[i]? = some x → Asks X σ A.in1 f H2 x (kd i)) (ks : Keys kd xs.length)
    (hR : ∀ u s', EP X pins σ Q u s' → R (.ok (.ret u)) s') (q : ∀ i x H3, xs[i]? = some x → (∀ j < xs.length, dataLt (kd j) (kd i) = false) → (∀ j < i, dataLt (kd i) (kd j) = true) → Same H2 H3 → Q x H3) :
    ∀ (r j i : Nat) (s : Shared) (H3 : Hp) (it S : Addr) (vb kb : Value) (xb vk : V) (c : Nat), xs.length - (j + 1) = r → j + 1 ≤ xs.length → Same H2 H3 → Inv X pins σ H3 s → FpOk X pins H3 it → FpOk X pins H3 S → S ≠ it → ItAt s.heap lt it l (j + 1) →
      s.heap.get? S = some (seqObj "list" #[vb, kb] c) → xs[i]? = some xb → (∀ j', j' ≤ j → dataLt (kd j') (kd i) = false) → (∀ j', j' < i → dataLt (kd i) (kd j') = true) → i ≤ j → RelV xb vb → RelV vk kb → Dp X.K H3 vk (kd i) →
      codeAny (model X.prog X.w) A (.builtin "min.loop" ⟨[.ref it, .ref f, .ref S], kw⟩) R s := by
  have hname : (toString "min" ++ toString ".loop" : String) = "min.loop" := by decide
  intro r
  induction r with
  | zero =>
    intro j i s H3 it S vb kb xb vk c hr hj s3 I fI fS hSI hit hS hxb hbest hfst hij rb rk dk
    have hin : j + 1 = xs.length := by omega
    refine codeAny_builtin PySem.F.entry_min_loop ?_
    rw [Around.under_plainId PySem.F.plain_min_loop _]
    show wpAny _ A.in1 (seqItems? (.ref S) >>= _) _ _ _
    refine wpAny_bind (wpAny_seqItems hS rfl ?_)
    show wpAny _ A.in1 (tryCatch (pyNext (.ref it)) _ >>= _) _ _ _
    refine wpAny_bind (wpAny_tryCatch (next_done I hh (hs.same s3) (by rw [← hin]; exact hit) fun h' tk hk => ?_))
    have I1 : Inv X pins σ H3 { s with heap := h', toks := tk } := I.turnedL hk (fp_one fI)
    have hS' := hk S _ (by simpa using hSI) hS
    show wpAny _ A.in1 (updateSeq S (fun _ => #[]) >>= _) _ _ _
    refine wpAny_bind ?_
    have s1 := Heap.SameBut.update h' S (Obj.mapSeq fun _ => (#[] : Array Value))
    refine wpAny_updateSeq hS' rfl (wpAny_bind (wpAny_letGo (wpAny_pure ?_)))
    have I2 := I1.turnedL (h' := h'.update S (Obj.mapSeq fun _ => (#[] : Array Value))) (t' := tk) (ch := [S]) (fun b o hb e => (s1.2 b (by simpa using hb)).trans e) (fp_one fS)
    exact hR vb _ ⟨xb, H3, I2, rb, q i xb H3 hxb (fun j' hj' => hbest j' (by omega)) hfst s3⟩
  | succ r ih =>
    intro j i s H3 it S vb kb xb vk c hr hj s3 I fI fS hSI hit hS hxb hbest hfst hij rb rk dk
    have hlt : j + 1 < xs.length := by omega
    refine codeAny_builtin PySem.F.entry_min_loop ?_
    rw [Around.under_plainId PySem.F.plain_min_loop _]
    show wpAny _ A.in1 (seqItems? (.ref S) >>= _) _ _ _
    refine wpAny_bind (wpAny_seqItems hS rfl ?_)
    show wpAny _ A.in1 (tryCatch (pyNext (.ref it)) _ >>= _) _ _ _
    have hx : xs[j + 1]? = some xs[j + 1] := List.getElem?_eq_getElem hlt
    have hib : i < xs.length := (List.getElem?_eq_some_iff.mp hxb).1
    refine wpAny_bind (wpAny_tryCatch (next_item I hh (hs.same s3) hit hx fun v h' tk rv hit' hk => ?_))
    have I1 : Inv X pins σ H3 { s with heap := h', toks := tk } := I.turnedL hk (fp_one fI)
    have hS' : h'.get? S = some (seqObj "list" #[vb, kb] c) := hk S _ (by simpa using hSI) hS
    have I1p := I1.pinned (fp := [it, S]) (fp_two fI fS) (fun b hb => by
      rcases List.mem_cons.mp hb with rfl | hb
      · exact itAt_ob hit'
      · rw [List.mem_singleton.mp hb]
        exact ⟨_, hS', seq_nocell⟩)
    show wpAny _ A.in1 (tryCatch (holding [v] (call (.ref f) [v])) _ >>= _) _ _ _
    refine wpAny_bind (wpAny_tryCatch (wpAny_holding (wpAny_mono (turn _ _ hx _ _ H3 v s3 I1p rv) (fun kv s'' he => ?_) fun _ _ hF => hF.elim)))
    obtain ⟨wv, H4, I2p, rw', s34, dw⟩ := he
    have pinAt : ∀ b ∈ [it, S], ∀ o, h'.get? b = some o → s''.heap.get? b = some o ∧ H4 b = none := fun b hb o e => by
      have z := I2p.pin (b, o) (List.mem_append_right _ (List.mem_append_right _ (mem_pinsAt hb e)))
      exact ⟨z.1, z.2.1⟩
    obtain ⟨oi, hoi, _⟩ := itAt_ob hit'
    have nI := (pinAt it (by simp) _ hoi).2
    have nS := (pinAt S (by simp) _ hS').2
    have hS2 : s''.heap.get? S = some (seqObj "list" #[vb, kb] c) := (pinAt S (by simp) _ hS').1
    have hit2 : ItAt s''.heap lt it l (j + 1 + 1) := itAt_keep hit' fun o e => (pinAt it (by simp) o e).1
    have I2 : Inv X pins σ H4 s'' := I2p.unpinned
    have fI2 : FpOk X pins H4 it := ⟨nI, fI.2⟩
    have fS2 : FpOk X pins H4 S := ⟨nS, fS.2⟩
    have dk2 : Dp X.K H4 vk (kd i) := Dp.mono s34 dk
    obtain ⟨as1, r1⟩ := Dp.reads I2 _ _ _ dw rw'
    obtain ⟨as2, r2⟩ := Dp.reads I2 _ _ _ dk2 rk
    show wpAny _ A.in1 (tryCatch (holding [v, kv] (richCompare .Lt kv kb >>= _)) _ >>= _) _ _ _
    refine wpAny_bind (wpAny_tryCatch (wpAny_holding (wpAny_bind (rcLt_alike _ _ A.in1 s'' kv kb _ _ r1 r2 (ks.al _ hlt _ hib) (ks.nn _ hlt) ?_ _ _ _ _ ?_))))
    · have h1 := ks.dp _ hlt
      have h2 := Nat.min_le_left (kd (j + 1)).depth (kd i).depth
      show A.units + 1 + _ < cLine
      omega
    refine wpAny_bind (wpAny_holding (wpAny_truthy_bool ?_))
    refine wpAny_bind (wpAny_letGo (wpAny_pure ?_))
    cases hb' : dataLt (kd (j + 1)) (kd i) with
    | true =>
      have s1 := Heap.SameBut.update s''.heap S (Obj.mapSeq fun _ => #[v, kv])
      obtain ⟨c2, hc2⟩ : ∃ c2, (s''.heap.update S (Obj.mapSeq fun _ => #[v, kv])).get? S = some (seqObj "list" #[v, kv] c2) := ⟨_, get?_update_seq hS2 fun _ => #[v, kv]⟩
      simp only [if_true]
      refine wpAny_bind ?_
      refine wpAny_updateSeq hS2 rfl (wpAny_bind (wpAny_letGo ?_))
      rw [hname]
      have I3 := I2.turnedL (h' := s''.heap.update S (Obj.mapSeq fun _ => #[v, kv])) (t' := s''.toks) (ch := [S]) (fun b o hb e => (s1.2 b (by simpa using hb)).trans e) (fp_one fS2)
      refine wpAny_pure ⟨plainId_quiet PySem.F.plain_min_loop _, ih (j + 1) (j + 1) _ H4 it S v kv _ wv c2 (by omega) hlt (s3.trans s34) I3 fI2 fS2 hSI (itAt_keep hit2 fun o e => (s1.2 it hSI.symm).trans e) hc2 hx (fun j' h1 => ?_) (fun j' h1 => lt_fst hb' (hbest j' (by omega))) (Nat.le_refl _) rv rw' dw⟩
      by_cases e : j' = j + 1
      · subst e
        exact lt_irr _
      · exact lt_tr (hbest j' (by omega)) (lt_as hb')
    | false =>
      simp only [Bool.false_eq_true, if_false]
      refine wpAny_bind (wpAny_letGo ?_)
      rw [hname]
      refine wpAny_pure ⟨plainId_quiet PySem.F.plain_min_loop _, ih (j + 1) i _ H4 it S vb kb xb vk c (by omega) hlt (s3.trans s34) I2 fI2 fS2 hSI hit2 hS2 hxb (fun j' h1 => ?_) hfst (by omega) rb rk dk2⟩
      by_cases e : j' = j + 1
      · subst e
        exact hb'
      · exact hbest j' (by omega)
theorem minF_call {A : Around} {f l : Addr} {H2 : Hp} {xs : List V} {lt : Bool} {kd : Nat → PyData} {kw : List (Str × Value)} {dv : Option Value} {s : Shared} {pins : List (Addr × Obj)} {Q : VK} {E : Value → Shared → Prop} (hh : A.handled = none) (hu : A.units + 60 < cLine) (hs : SqE X.K H2 lt l xs) (turn : ∀ i x, xs[i]? = some x → Asks X σ A.in1 f H2 x (kd i)) (ks : Keys kd xs.length)
    (hkw : (kw = [(Str.ofString "key", .ref f)] ∧ 0 < xs.length) ∨ ∃ d : V, ∃ dv : Value, kw = [(Str.ofString "key", .ref f), (Str.ofString "default", dv)] ∧ RelV d dv ∧ (xs = [] → Q d H2)) (I : Inv X pins σ H2 s) (q : ∀ i x H3, xs[i]? = some x → (∀ j < xs.length, dataLt (kd j) (kd i) = false) → (∀ j < i, dataLt (kd i) (kd j) = true) → Same H2 H3 → Q x H3) :
    wpAny (model X.prog X.w) A (call (.builtin "min") [.ref l] kw) (EP X pins σ Q) E s := by
  have hname : (toString "min" ++ toString ".loop" : String) = "min.loop" := by decide
  have body : ∀ kw2 : List (Str × Value), (0 < xs.length ∨ ∃ d : V, ∃ dv : Value, kw2 = [(Str.ofString "default", dv)] ∧ RelV d dv ∧ (xs = [] → Q d H2)) → wpAny (model X.prog X.w) A.in1 (do
      let it ← pyIter (.ref l)
      let S ← newList []
      again (.builtin (toString "min" ++ toString ".loop") ⟨[it, .ref f, S], kw2⟩)) (fun fin s' => match fin with
      | .done f => (match (Except.ok f : Result) with | .ok (.ret v) => EP X pins σ Q v s' | .ok _ => False | .error e => E e s')
      | .again c' => c'.quiet = true ∧ codeAny (model X.prog X.w) A c' (fun r s' => match r with | .ok (.ret v) => EP X pins σ Q v s' | .ok _ => False | .error e => E e s') s') E s := by
    intro kw2 hk2
    refine wpAny_bind (iter_begin I hs fun oi noc hit => ?_)
    refine wpAny_bind (wpAny_newList ?_ (Nat.zero_le _))
    rw [hname]
    have hS0 : (s.heap.push oi).objs.size = s.heap.objs.size + 1 := size_push' ..
    have hSI : (s.heap.push oi).objs.size ≠ s.heap.objs.size := by rw [hS0]; exact Nat.ne_of_gt (Nat.lt_succ_self _)
    have kp : ∀ b o, s.heap.get? b = some o → ((s.heap.push oi).push (seqObj "list" #[] 0)).get? b = some o := fun b o e => Heap.get?_push_of_some _ (Heap.get?_push_of_some _ e)
    have I0 : Inv X pins σ H2 { s with heap := (s.heap.push oi).push (seqObj "list" #[] 0) } := I.kept (t' := s.toks) kp
    have fI : FpOk X pins H2 s.heap.objs.size := I.fpOk (Nat.le_refl _) (I.hok.fresh (Nat.le_refl _))
    have fS : FpOk X pins H2 (s.heap.push oi).objs.size := I.fpOk (by rw [hS0]; exact Nat.le_succ _) (I.hok.fresh (by rw [hS0]; exact Nat.le_succ _))
    have gS : ((s.heap.push oi).push (seqObj "list" #[] 0)).get? (s.heap.push oi).objs.size = some (seqObj "list" #[] 0) := Heap.get?_push_size _ rfl
    have hit0 : ItAt ((s.heap.push oi).push (seqObj "list" #[] 0)) lt s.heap.objs.size l 0 := itAt_keep hit fun o e => Heap.get?_push_of_some _ e
    refine wpAny_pure ⟨plainId_quiet PySem.F.plain_min_loop _, ?_⟩
    generalize hSS : (s.heap.push oi).objs.size = S at hSI fS gS ⊢
    generalize hii : s.heap.objs.size = it at hSI fI hit0 ⊢
    generalize hs0 : ({ s with heap := (s.heap.push oi).push (seqObj "list" #[] 0) } : Shared) = s0 at I0 ⊢
    have gS : s0.heap.get? S = some (seqObj "list" #[] 0) := by rw [← hs0]; exact gS
    have hit0 : ItAt s0.heap lt it l 0 := by rw [← hs0]; exact hit0
    refine codeAny_builtin PySem.F.entry_min_loop ?_
    rw [Around.under_plainId PySem.F.plain_min_loop _]
    show wpAny _ A.in1 (seqItems? (.ref S) >>= _) _ _ _
    refine wpAny_bind (wpAny_seqItems gS rfl ?_)
    show wpAny _ A.in1 (tryCatch (pyNext (.ref it)) _ >>= _) _ _ _
    by_cases hne : 0 < xs.length
    · have hx : xs[0]? = some xs[0] := List.getElem?_eq_getElem hne
      refine wpAny_bind (wpAny_tryCatch (next_item I0 hh hs hit0 hx fun v h' tk rv hit' hk => ?_))
      have I1 : Inv X pins σ H2 { s0 with heap := h', toks := tk } := I0.turnedL hk (fp_one fI)
      have hS' : h'.get? S = some (seqObj "list" #[] 0) := hk S _ (by simpa using hSI) gS
      have I1p := I1.pinned (fp := [it, S]) (fp_two fI fS) (fun b hb => by
        rcases List.mem_cons.mp hb with rfl | hb
        · exact itAt_ob hit'
        · rw [List.mem_singleton.mp hb]
          exact ⟨_, hS', seq_nocell⟩)
      show wpAny _ A.in1 (tryCatch (holding [v] (call (.ref f) [v])) _ >>= _) _ _ _
      refine wpAny_bind (wpAny_tryCatch (wpAny_holding (wpAny_mono (turn _ _ hx _ _ H2 v (Same.refl _) I1p rv) (fun kv s'' he => ?_) fun _ _ hF => hF.elim)))
      obtain ⟨wv, H4, I2p, rw', s34, dw⟩ := he
      have pinAt : ∀ b ∈ [it, S], ∀ o, h'.get? b = some o → s''.heap.get? b = some o ∧ H4 b = none := fun b hb o e => by
        have z := I2p.pin (b, o) (List.mem_append_right _ (List.mem_append_right _ (mem_pinsAt hb e)))
        exact ⟨z.1, z.2.1⟩
      obtain ⟨oi2, hoi, _⟩ := itAt_ob hit'
      have nI := (pinAt it (by simp) _ hoi).2
      have nS := (pinAt S (by simp) _ hS').2
      have hS2 : s''.heap.get? S = some (seqObj "list" #[] 0) := (pinAt S (by simp) _ hS').1
      have hit2 : ItAt s''.heap lt it l (0 + 1) := itAt_keep hit' fun o e => (pinAt it (by simp) o e).1
      have I2 : Inv X pins σ H4 s'' := I2p.unpinned
      have fI2 : FpOk X pins H4 it := ⟨nI, fI.2⟩
      have fS2 : FpOk X pins H4 S := ⟨nS, fS.2⟩
      have s1 := Heap.SameBut.update s''.heap S (Obj.mapSeq fun _ => #[v, kv])
      obtain ⟨c2, hc2⟩ : ∃ c2, (s''.heap.update S (Obj.mapSeq fun _ => #[v, kv])).get? S = some (seqObj "list" #[v, kv] c2) := ⟨_, get?_update_seq hS2 fun _ => #[v, kv]⟩
      show wpAny _ A.in1 (updateSeq S (fun _ => #[v, kv]) >>= _) _ _ _
      refine wpAny_bind ?_
      refine wpAny_updateSeq hS2 rfl ?_
      rw [hname]
      have I3 := I2.turnedL (h' := s''.heap.update S (Obj.mapSeq fun _ => #[v, kv])) (t' := s''.toks) (ch := [S]) (fun b o hb e => (s1.2 b (by simpa using hb)).trans e) (fp_one fS2)
      refine wpAny_pure ⟨plainId_quiet PySem.F.plain_min_loop _, minF_loop hh hu hs turn ks (fun u s' z => z) q _ 0 0 _ H4 it S v kv _ wv c2 rfl hne s34 I3 fI2 fS2 hSI (itAt_keep hit2 fun o e => (s1.2 it hSI.symm).trans e) hc2 hx (fun j' h1 => ?_) (fun j' h1 => absurd h1 (Nat.not_lt_zero _)) (Nat.le_refl _) rv rw' dw⟩
      have e : j' = 0 := by omega
      subst e
      exact lt_irr _
    · rcases hk2 with z | ⟨d, dv, rfl, rd, qd⟩
      · exact absurd z hne
      have e0 : xs = [] := List.eq_nil_of_length_eq_zero (by omega)
      refine wpAny_bind (wpAny_tryCatch (next_done I0 hh hs (by rw [e0]; exact hit0) fun h' tk hk => ?_))
      have I1 : Inv X pins σ H2 { s0 with heap := h', toks := tk } := I0.turnedL hk (fp_one fI)
      show wpAny _ A.in1 (rule _ >>= _) _ _ _
      exact wpAny_bind (wpAny_rule (wpAny_pure ⟨d, H2, I1, rd, qd e0⟩))
  rcases hkw with ⟨rfl, hne⟩ | ⟨d, dv, rfl, rd, qd⟩
  · refine kmk_tree PySem.F.kind_min PySem.F.plain_min PySem.F.entry_min (kmk_min_key _ _) ?_
    show wpAny _ A.in1 (Builtin.Builtins.bindParams "min" ["key", "default"] 0 ⟨[], [(Str.ofString "key", .ref f)]⟩ >>= _) _ _ s
    refine wpAny_bind (wpAny_of_eq (show Builtin.Builtins.bindParams "min" ["key", "default"] 0 ⟨[], [(Str.ofString "key", .ref f)]⟩ = pure [some (.ref f), none] from rfl) ?_)
    refine wpAny_bind (wpAny_pure ?_)
    exact body [] (.inl hne)
  · refine kmk_tree PySem.F.kind_min PySem.F.plain_min PySem.F.entry_min (by unfold argsOk; kernel_rfl) ?_
    show wpAny _ A.in1 (Builtin.Builtins.bindParams "min" ["key", "default"] 0 ⟨[], [(Str.ofString "key", .ref f), (Str.ofString "default", dv)]⟩ >>= _) _ _ s
    refine wpAny_bind (wpAny_of_eq (show Builtin.Builtins.bindParams "min" ["key", "default"] 0 ⟨[], [(Str.ofString "key", .ref f), (Str.ofString "default", dv)]⟩ = pure [some (.ref f), some dv] from rfl) ?_)
    refine wpAny_bind (wpAny_pure ?_)
    exact body [(Str.ofString "default", dv)] (.inr ⟨d, dv, rfl, rd, qd⟩)
end
/-- min of what t gives, by a lambda: the first that is least -/
def tKeyF (K : PySem.W.Frag) (T : List NTab) (N : List Str) (js : List Nat) (tb : TE) (t : TA) : TE := fun σ H Q => t σ H fun vs H1 => TabsN T H1 ∧ ∀ H2, ExtN H1 H2 → (∀ b, H2 b = Option.none → H1 b = Option.none) → TabsN T H2 →
  ∃ (a : Addr) (xs : List V) (kd : Nat → PyData), vs = [.ref a] ∧ (SqL K H2 a xs ∨ SqT K H2 a xs) ∧ (0 < xs.length) ∧ Keys kd xs.length ∧ (∀ i x, xs[i]? = some x → ∀ H3, Same H2 H3 → tb (startF N [x] (js.map (slotAt σ))) H3 fun v H4 => Same H3 H4 ∧ Dp K H4 v (kd i)) ∧
    ∀ i x H3, xs[i]? = some x → (∀ j < xs.length, dataLt (kd j) (kd i) = false) → (∀ j < i, dataLt (kd i) (kd j) = true) → Same H2 H3 → Q x H3
section
variable {X : Cx}
variable {T : List NTab} {nm : Nat → Nat → Str} {c P : Addr} {params : Arguments} {body : Expr} {scope : Scope} {lpos p pos kpos dpos cpos : Pos} {k : Nat} {N fr : List Str} {js : List Nat} {y : Str} {e : Expr} {t : TA} {tb : TE} {cst : Nat}
theorem pe_minLamF (TB : TabB X.base X.mg c P) (hcode : X.env.code = .ref c) (hm : (P, nm) ∈ T) (hn : nm lpos.line lpos.col = X.env.qual ++ "<lambda>") (hu : ∀ p ∈ T, p.1 = P → p.2 = nm) (S : NScope N [y] fr scope) (hbn : ndefB X.env.scope scope fr = true) (hjs : js.map (fun j => X.N[j]?) = fr.map some)
    (hr : Room (k + 2) X.A) (hg : Gl X "min") (hM : X.mg "min" = none) (ha : PA X [e] t)
    (hbody : ∀ (f c' : Addr) (A : Around) (outer : List Env) (s : Shared) (H : Hp), Room k (A.deeper (envF ⟨"<lambda>", X.env.qual ++ "<lambda>", params, [], scope, cloFrom X.env.cells scope.names [], c'⟩ f s.heap.objs.size)) →
      PE (ncx CX0 X.prog X.w X.K X.mg X.base N ⟨"<lambda>", X.env.qual ++ "<lambda>", params, [], scope, cloFrom X.env.cells scope.names [], c'⟩ f A outer s H fun _ _ _ => False) body tb)
    (hbind : ∀ (q : Str) (cl : List (Str × Addr)) (pm cv ctv : Value) (u : Value), bindArgs (PySem.W.kla_fn "<lambda>" q params body scope cl pm cv ctv) ⟨[u], []⟩ = pure [(y, u)] := by intros; rfl) (hdef : defaultsOf params X.env = ([], []) := by rfl)
    (he : backTo pos (starEach [e] X.env) = (false, eval e X.env) :: backTo pos (starEach [] X.env) := by rfl) (hpl : (backTo pos (starEach [e] X.env)).any (·.1) = false := by rfl) :
    PE X (.Call (.Name "min" p) [e] [⟨some "key", .Lambda params body scope lpos, kpos⟩] pos) (tKeyF X.K T N js tb t) := by
  refine ⟨fun pins s σ H Q I h => ?_⟩
  refine wpAny_Call_Name_kw (ld_blt (u := .builtin "min") I hg hM (by decide +kernel) ?_ (by decide) (by decide))
  have hk := pk_cons (nm := some "key") (kpos := kpos) (pe_lamV (body := body) (pos := lpos) TB hcode hm hn hu (ndef_free hbn) hdef) (pk_nil (X := X))
  refine callWith_kw (thn (ha.run pos pins s σ H _ I h) fun us s1 ⟨vs, H1, I1, r1, hT, q1⟩ => thn (hk.run pos pins s1 σ H1 (fun zs H2 => ∃ f c', zs = [.ref f] ∧ ExtN H1 H2 ∧ (∀ b, H2 b = Option.none → H1 b = Option.none) ∧ TabsN T H2 ∧ H2 f = some (LmO f ⟨"<lambda>", X.env.qual ++ "<lambda>", params, [], scope, cloFrom X.env.cells scope.names [], c'⟩ body) ∧ H2 c' = some (CodeO c' (X.env.qual ++ "<lambda>"))) I1
    ⟨hT, fun f c' H2 eN nn T1 f0 f1 c1 => ⟨f, c', rfl, eN, nn, T1, f1, c1⟩⟩) fun ws s2 ⟨zs, H2, I2, r2, f, c', ez, eN, nn, T1, f1, c1⟩ => ?_) he hpl rfl rfl
  subst ez
  obtain rfl := Vals.ref1 r2
  obtain ⟨a, xs, kd, rfl, hs, hne, hks, hturn, q⟩ := q1 H2 eN nn T1
  obtain rfl := Vals.ref1 r1
  obtain ⟨lt, hs⟩ := sqE_of hs
  have fin := minF_call (X := X) (σ := σ) (A := X.A) (f := f) (kw := [(Str.ofString "key", .ref f)]) (dv := none) (Q := Q) (E := X.xe) hr.hd (by have := hr.units; omega) hs (fun i x hx => asks_lam X.A.in1 S hr.in1 (fun z => z.in1) (fun pm ctv us hl => by
    match us, hl with
    | [u], _ => exact hbind _ _ pm _ ctv u) rfl (fun ok => Caps.made ok (ndef_free hbn) (ndef_fr hbn) hjs) f1 c1 (fun A outer s H hr' => hbody f c' A outer s H hr') (hturn i x hx)) hks (.inl ⟨rfl, hne⟩) I2 (fun i x H3 hx hb hf s3 => q i x H3 hx hb hf s3)
  exact fin
end
end Ef
set_option maxHeartbeats 4000000
namespace Ef
open PySem PySem.Spec PyProof.Rows L2 LamX NdefX
/-! ### a nested def whose one parameter is kept by a comprehension in it -/
structure NScopeC (N : List Str) (y : Str) (fr : List Str) (sc : Scope) : Prop where
  kind : sc.kind = .function
  co : sc.isCoroutine = false
  gen : sc.isGenerator = false
  nd : N.Nodup
  pre : N.take (1 + fr.length) = y :: fr
  par : sc.names.lookup y = some .cell
  one : ∀ z, sc.names.lookup z = some .cell → z = y
  free : ∀ z, sc.names.lookup z = some .free → z ∈ fr
  frk : ∀ x ∈ fr, sc.names.lookup x = some .free
  cf : ∀ (n : Nat) (acc : List (Str × Addr)), cellsFrom n sc.names acc = (y, n) :: acc
  pc : ∀ h : Heap, pushCells h sc.names = h.push { cls := .type "cell", data := .cell none }
def nscCB (N : List Str) (y : Str) (fr : List Str) (sc : Scope) : Bool :=
  decide (sc.kind = .function) && !sc.isCoroutine && !sc.isGenerator && decide N.Nodup && decide (N.take (1 + fr.length) = y :: fr) && decide (sc.names.lookup y = some .cell) && sc.names.all (fun z => !decide (z.2 = .cell) || decide (z.1 = y)) && sc.names.all (fun z => !decide (z.2 = .free) || decide (z.1 ∈ fr)) && fr.all (fun x => decide (sc.names.lookup x = some .free))
theorem nscopeC_by {N : List Str} {y : Str} {fr : List Str} {sc : Scope} (h : nscCB N y fr sc = true) (cf : ∀ (n : Nat) (acc : List (Str × Addr)), cellsFrom n sc.names acc = (y, n) :: acc) (pc : ∀ h : Heap, pushCells h sc.names = h.push { cls := .type "cell", data := .cell none }) : NScopeC N y fr sc := by
  unfold nscCB at h
  simp only [Bool.and_eq_true, Bool.not_eq_true', decide_eq_true_eq, List.all_eq_true, Bool.or_eq_true, decide_eq_false_iff_not] at h
  obtain ⟨⟨⟨⟨⟨⟨⟨⟨h1, h2⟩, h3⟩, h4⟩, h5⟩, h6⟩, h7⟩, h8⟩, h9⟩ := h
  exact ⟨h1, h2, h3, h4, h5, h6, fun z e => (h7 (z, .cell) (PySem.mem_of_lookup e)).elim (fun q => absurd rfl q) id, fun z e => (h8 (z, .free) (PySem.mem_of_lookup e)).elim (fun q => absurd rfl q) id, h9, cf, pc⟩
abbrev envFC (F : NF) (y : Str) (f L : Addr) : Env := PySem.W.envX F.qual F.scope L f (.ref F.c) ((y, L + 1) :: F.cl)
/-- the context of its body, at its entry -/
def ncxC (CX : CXT) (P : Program) (w : World) (K : PySem.W.Frag) (mg : Str → Option Value) (base : Heap) (N : List Str) (F : NF) (y : Str) (f : Addr) (A : Around) (outer : List Env) (s : Shared) (H : Hp) (E : XK) : Cx where
  prog := P
  w := w
  K := K
  mg := mg
  base := base
  A := A.deeper (envFC F y f s.heap.objs.size)
  N := N
  s_0 := s
  H_0 := H
  env := envFC F y f s.heap.objs.size
  outer := outer
  stack := envFC F y f s.heap.objs.size :: outer
  ex := []
  calm := true
  fn := fun _ => false
  pn := []
  xe := fun e s' => wpAny (model P w) (A.deeper (envFC F y f s.heap.objs.size)) (leaving (envFC F y f s.heap.objs.size) e) (fun _ s'' => CX outer H s E e s'') (fun e' s'' => CX outer H s E e' s'') s'
section
variable {CX : CXT} {P : Program} {w : World} {K : PySem.W.Frag} {mg : Str → Option Value} {base : Heap} {N fr : List Str} {y : Str} {F : NF} {f : Addr} {A : Around} {outer : List Env} {s : Shared} {H : Hp} {E : XK} {u : Value} {v : V} {ws : List (Option V)} {k : Nat}
theorem lookup_y {L : Addr} {cl : List (Str × Addr)} : ((y, L) :: cl).lookup y = some L := by rw [List.lookup_cons]; simp
theorem lookup_z {L : Addr} {cl : List (Str × Addr)} {z : Str} (h : z ≠ y) : ((y, L) :: cl).lookup z = cl.lookup z := by
  rw [List.lookup_cons]
  have : (z == y) = false := beq_eq_false_iff_ne.mpr h
  rw [this]
theorem inv_startC {h₁ : Heap} {tk : Nat} {m : Str → Option Value} (S : NScopeC N y fr F.scope) (hd : A.handled = none) (e0 : Env0 P w K mg base A outer s H) (r : RelV v u) (C : CellsAt F.cl fr ws s.heap H) (hns : h₁.Ns s.heap.objs.size m)
    (hc : h₁.IsCell (s.heap.objs.size + 1) (some u)) (kp : ∀ b o, s.heap.get? b = some o → h₁.get? b = some o) : Inv (ncxC CX P w K mg base N F y f A outer s H E) [] (startF N [v] ws) H { s with heap := h₁, toks := tk } := by
  have hpl : 1 + fr.length ≤ N.length := by
    have q := congrArg List.length S.pre
    rw [List.length_take, List.length_cons] at q
    omega
  have noA : ∀ b : Addr, b ∉ (ncxC CX P w K mg base N F y f A outer s H E).ex := fun b z => absurd (show b ∈ ([] : List Addr) from z) (by simp)
  have cellK : ∀ {c : Addr} {v : Option Value}, s.heap.IsCell c v → h₁.IsCell c v := fun {c v} ⟨o, ho, hd⟩ => ⟨o, kp _ _ ho, hd⟩
  have old : ∀ z c, F.cl.lookup z = some c → c < s.heap.objs.size := fun z c e => by
    obtain ⟨_, v, q⟩ := C.all z c e
    exact q.lt
  have nC : H (s.heap.objs.size + 1) = none := e0.hok.fresh (Nat.le_succ _)
  have split : ∀ z c, ((y, s.heap.objs.size + 1) :: F.cl).lookup z = some c → (z = y ∧ c = s.heap.objs.size + 1) ∨ (z ≠ y ∧ F.cl.lookup z = some c) := fun z c e => by
    by_cases q : z = y
    · subst q
      rw [lookup_y] at e
      exact .inl ⟨rfl, (Option.some.inj e).symm⟩
    · rw [lookup_z q] at e
      exact .inr ⟨q, e⟩
  refine ⟨⟨e0.mod, S.kind, rfl, rfl, Nat.le_refl _, fun x z c e1 e2 => ?_, fun z hz => ?_, fun z c q _ => ?_, fun _ => hd, Around.frames_deeper e0.frames, .inr ⟨rfl, rfl⟩, fun b z => absurd z (noA b), e0.bs, e0.bsz, fun b _ _ => noA b,
      fun b z => absurd z (noA b), e0.funs, e0.frf⟩,
    rfl, e0.bare, Un.kept kp, ⟨_, hns, fun i z x e1 e2 e3 => ?_⟩, fun z c e => ?_, e0.hok.fresh (Nat.le_refl _), fun z c e => ?_, fun q hq => absurd (show q ∈ ([] : List (Addr × Obj)) ++ [] from hq) (by simp), e0.hok.kept kp, ?_⟩
  · rcases split x c e1 with ⟨a1, a2⟩ | ⟨a1, a2⟩ <;> rcases split z c e2 with ⟨b1, b2⟩ | ⟨b1, b2⟩
    · rw [a1, b1]
    · exact absurd (old z c b2) (by rw [a2]; exact Nat.not_lt.mpr (Nat.le_succ _))
    · exact absurd (old x c a2) (by rw [b2]; exact Nat.not_lt.mpr (Nat.le_succ _))
    · exact C.inj x z c a2 b2
  · have hz : F.scope.names.lookup z = some .cell ∨ F.scope.names.lookup z = some .free := hz
    rcases hz with hz | hz
    · rw [S.one z hz]
      exact ⟨_, lookup_y⟩
    · obtain ⟨i, hi⟩ := List.mem_iff_getElem?.mp (S.free _ hz)
      obtain ⟨c, hc, _⟩ := C.has i z hi
      by_cases q : z = y
      · rw [q, S.par] at hz
        cases hz
      · exact ⟨c, (lookup_z q).trans hc⟩
  · have q : false = true := q
    cases q
  · have e1 : N[i]? = some z := e1
    have clen := C.len
    unfold startF at e2
    cases i with
    | zero =>
      have hz : (y :: fr)[0]? = some z := by
        rw [← S.pre, List.getElem?_take_of_lt (by omega)]
        exact e1
      obtain rfl : y = z := by simpa using hz
      have hx : some (some v) = some (some x) := e2
      cases hx
      exact ⟨u, r, .inr ⟨.inl S.par, _, lookup_y, hc⟩⟩
    | succ i =>
      have e2 : (ws ++ List.replicate (N.length - [v].length - ws.length) none)[i]? = some (some x) := by simpa using e2
      by_cases h2 : i < fr.length
      · have hq : (y :: fr)[i + 1]? = some z := by
          rw [← S.pre, List.getElem?_take_of_lt (by omega)]
          exact e1
        have hq : fr[i]? = some z := by simpa using hq
        rw [List.getElem?_append_left (by omega)] at e2
        obtain ⟨c, hc2, hv⟩ := C.has i z hq
        obtain ⟨u2, ru, hu⟩ := hv x e2
        have hfr := S.frk z (List.mem_of_getElem? hq)
        have nz : z ≠ y := fun q => by
          rw [q, S.par] at hfr
          cases hfr
        exact ⟨u2, ru, .inr ⟨.inr hfr, c, (lookup_z nz).trans hc2, cellK hu⟩⟩
      · rw [List.getElem?_append_right (by omega), List.getElem?_replicate] at e2
        split at e2 <;> cases e2
  · rcases split z c e with ⟨_, rfl⟩ | ⟨_, a2⟩
    · exact ⟨_, hc⟩
    · obtain ⟨v, q⟩ := (C.all z c a2).2
      exact ⟨v, cellK q⟩
  · rcases split z c e with ⟨_, rfl⟩ | ⟨_, a2⟩
    · exact nC
    · exact (C.all z c a2).1
  · have clen := C.len
    unfold startF
    show _ = N.length
    rw [List.length_append, List.length_append, List.length_map, List.length_replicate]
    have : [v].length = 1 := rfl
    omega
theorem env_C {M : Model} {E : Value → Shared → Prop} {Q : Env → Shared → Prop} (S : NScopeC N y fr F.scope) (h : ∀ (h₁ : Heap) (m : Str → Option Value), h₁.Ns s.heap.objs.size m → h₁.IsCell (s.heap.objs.size + 1) (some u) → (∀ b o, s.heap.get? b = some o → h₁.get? b = some o) → ∀ tk, Q (envFC F y f s.heap.objs.size) { s with heap := h₁, toks := tk }) :
    wpAny M A (newFunctionEnv F.scope mainGlobals F.cl [(y, u)] (F.qual ++ ".<locals>.") (some f) (.ref F.c) none builtinsNs) Q E s := by
  simp only [newFunctionEnv, Option.isSome_none, Bool.false_eq_true, if_false]
  refine wpAny_bind (wpAny_alloc ?_)
  refine wpAny_bind (wpAny_layCells _ (fun name kind cells => by cases hkc : kind == NameKind.cell <;> simp [hkc]) _ _ _ _ ?_)
  rw [S.cf, S.pc]
  have hsz : ({ s with heap := s.heap.push { cls := .type "frame", data := .dict #[] } } : Shared).heap.objs.size = s.heap.objs.size + 1 := Heap.size_push ..
  rw [hsz]
  have kp : ∀ b o, s.heap.get? b = some o → ((s.heap.push { cls := .type "frame", data := .dict #[] }).push { cls := .type "cell", data := .cell none }).get? b = some o := fun b o e => Heap.get?_push_of_some _ (Heap.get?_push_of_some _ e)
  have hns : ((s.heap.push { cls := .type "frame", data := .dict #[] }).push { cls := .type "cell", data := .cell none }).Ns s.heap.objs.size (fun _ => none) := (Heap.Ns.new s.heap (.type "frame")).keeps fun b o e => Heap.get?_push_of_some _ e
  have hcl : ((s.heap.push { cls := .type "frame", data := .dict #[] }).push { cls := .type "cell", data := .cell none }).IsCell (s.heap.objs.size + 1) none := by
    refine ⟨{ cls := .type "cell", data := .cell none }, ?_, rfl⟩
    have e := Heap.get?_push_size (s.heap.push { cls := .type "frame", data := .dict #[] }) (o := { cls := .type "cell", data := .cell none }) rfl
    rw [Heap.size_push] at e
    exact e
  refine wpAny_bind ?_
  rw [List.forIn_cons]
  refine wpAny_bind (wpAny_bind ?_)
  refine wpAny_storeName_cell (env := envFC F y f s.heap.objs.size) (c := s.heap.objs.size + 1) S.kind S.par lookup_y hcl fun h' hc' hs' => ?_
  refine wpAny_pure ?_
  dsimp only
  rw [List.forIn_nil]
  refine wpAny_pure (wpAny_pure ?_)
  exact h h' _ (hns.sameBut hs' (Nat.ne_of_lt (Nat.lt_succ_self _))) hc' (fun b o e => hs'.extBut b o (Nat.ne_of_lt (Nat.lt_succ_of_lt (Heap.lt_size e))) (kp b o e)) _
theorem nok_ofC {sp : List (Option V) → Sp} (S : NScopeC N y fr F.scope) (hb : ∀ (doc pm ctv u : Value), bindArgs (F.fd doc pm ctv) ⟨[u], []⟩ = pure [(y, u)]) (len : ∀ ws vs H Q E, sp ws vs H Q E → vs.length = 1)
    (hbody : ∀ (A : Around) (outer : List Env) (s : Shared) (H : Hp) (v : V) (ws : List (Option V)) (Q : VK) (E : XK), Room k (A.deeper (envFC F y f s.heap.objs.size)) → H f = some (FnO f F) → H F.c = some (CodeO F.c F.qual) → ws.length = fr.length → sp ws [v] H Q E →
      ∃ t, PSs (ncxC CX P w K mg base N F y f A outer s H E) F.body t ∧ t { nx := fun _ H' => Q .non H', rt := Q } (startF N [v] ws) H) :
    NOk P w K mg base CX (k + 1) f F [y] fr sp := by
  refine ⟨len, fun A outer s H us vs ws Q E hr e0 hf hc C r hsp => ?_⟩
  have hl := len _ _ _ _ _ hsp
  have lim : s.heap.NoLimit := e0.mod.nolimit.keeps fun b o e => (e0.bs b o e).1
  obtain ⟨od, sl, doc, pm, ctv, ho⟩ := fnO_at e0.hok hf
  obtain ⟨v, rfl⟩ : ∃ v, vs = [v] := by
    match vs, hl with
    | [v], _ => exact ⟨v, rfl⟩
  obtain ⟨u, rfl, ru⟩ := vals1 r
  refine codeAny_call_function hr.depth ho rfl S.co S.gen rfl (codeO_at e0.hok hc) ?_
  rw [hb doc pm ctv u]
  refine wpAny_pure (env_C (u := u) S fun h₁ m hns hcc kp tk => ⟨lim.keeps kp, ?_⟩)
  show codeAny _ _ (.func F.body (envFC F y f s.heap.objs.size)) _ _
  refine codeAny_func ?_
  obtain ⟨t, ht, hq⟩ := hbody A outer s H v ws Q E (hr.deeper _) hf hc C.len hsp
  have I : Inv (ncxC CX P w K mg base N F y f A outer s H E) [] (startF N [v] ws) H { s with heap := h₁, toks := tk } := inv_startC S hr.hd e0 ru C hns hcc kp
  refine wpAny_mono (ht.run [] _ (startF N [v] ws) H _ I hq) (fun fl s' hs => ?_) fun e s' hs => hs
  have fin : ∀ {σ' : L2.St} {H' : Hp} {v : V} {u : Value}, Inv (ncxC CX P w K mg base N F y f A outer s H E) [] σ' H' s' → L2.RelV v u → Q v H' → CE outer P w H s Q u s' :=
    fun {σ' H' v u} J rv q => ⟨v, H', J.os, J.bare, J.base, J.hok, rv, q⟩
  cases fl with
  | ret u =>
    obtain ⟨v, σ', H', J, rv, q⟩ := hs
    exact fin J rv q
  | next =>
    obtain ⟨σ', H', J, q⟩ := hs
    exact fin (v := V.non) (u := Value.none) J rfl q
  | brk =>
    obtain ⟨_, _, _, q⟩ := hs
    exact False.elim q
  | cont =>
    obtain ⟨_, _, _, q⟩ := hs
    exact False.elim q
end
end Ef
namespace Ef
/-! ### a level that is not equal shows in the loads of one of two live sets -/
def nb (s : Nat) (rows : List (List Nat)) (S : List Nat) (x : Nat) : Nat := cE (rows.map (edgE s)) (srt (S.erase x), x)
theorem nb_perm {s : Nat} {rows : List (List Nat)} {S S' : List Nat} (h : S.Perm S') (x : Nat) : nb s rows S x = nb s rows S' x := by
  unfold nb
  rw [srt_eq (h.erase x)]
theorem sum_top {α : Type} {f : α → Nat} {F : Nat} : ∀ {l : List α}, (∀ a ∈ l, f a ≤ F) → (l.map f).sum = l.length * F → ∀ a ∈ l, f a = F
  | [], _, _, _, h => absurd h List.not_mem_nil
  | b :: l, h, e, a, ha => by
    have hle : ∀ l : List α, (∀ a ∈ l, f a ≤ F) → (l.map f).sum ≤ l.length * F := by
      intro l
      induction l with
      | nil => intro _; simp
      | cons c l ih =>
        intro h
        rw [List.map_cons, List.sum_cons, List.length_cons, Nat.succ_mul]
        have h1 := ih fun x hx => h x (List.mem_cons_of_mem _ hx)
        have h2 := h c List.mem_cons_self
        omega
    rw [List.map_cons, List.sum_cons, List.length_cons, Nat.succ_mul] at e
    have h1 := hle l fun x hx => h x (List.mem_cons_of_mem _ hx)
    have h2 := h b List.mem_cons_self
    rcases List.mem_cons.mp ha with rfl | ha
    · omega
    · exact sum_top (fun x hx => h x (List.mem_cons_of_mem _ hx)) (by omega) a ha
theorem phi_le {m t q : Nat} {w : Nat → Nat} {B B' : Nat} (h : B ≤ B') : phi m t q w B ≤ phi m t q w B' := by
  rcases Nat.lt_or_ge B B' with c | c
  · exact Nat.le_of_lt (phi_lt c)
  · rw [show B = B' by omega]
    exact Nat.le_refl _
theorem le_sum_eq : ∀ {a b : List Nat}, a.length = b.length → (∀ (i : Nat) x y, a[i]? = some x → b[i]? = some y → x ≤ y) → a.sum = b.sum → a = b
  | [], [], _, _, _ => rfl
  | x :: a, y :: b, hl, hp, hs => by
    have le : ∀ {a b : List Nat}, a.length = b.length → (∀ (i : Nat) x y, a[i]? = some x → b[i]? = some y → x ≤ y) → a.sum ≤ b.sum := by
      intro a
      induction a with
      | nil => intro b _ _; simp
      | cons x a ih =>
        intro b hl hp
        cases b with
        | nil => cases hl
        | cons y b =>
          rw [List.sum_cons, List.sum_cons]
          have h1 := ih (by simpa using hl) fun i x y h1 h2 => hp (i + 1) x y (by simpa using h1) (by simpa using h2)
          have h2 := hp 0 x y rfl rfl
          omega
    rw [List.sum_cons, List.sum_cons] at hs
    have hl2 : a.length = b.length := by simpa using hl
    have hp2 : ∀ (i : Nat) x y, a[i]? = some x → b[i]? = some y → x ≤ y := fun i x y h1 h2 => hp (i + 1) x y (by simpa using h1) (by simpa using h2)
    have h1 := le hl2 hp2
    have h2 := hp 0 x y rfl rfl
    rw [le_sum_eq hl2 hp2 (by omega), show x = y by omega]
theorem asc_flat {h m : Nat} (hm : 1 ≤ m) (hh : 1 ≤ h) {vs : List Nat} (hl : vs.length = h + m) (asc : vs.Pairwise (· ≤ ·)) (e : (vs.take h).sum = (vs.drop m).sum) : ∀ x ∈ vs, ∀ y ∈ vs, x = y := by
  have mono : ∀ (i j : Nat) x y, i ≤ j → vs[i]? = some x → vs[j]? = some y → x ≤ y := fun i j x y hij h1 h2 => by
    obtain ⟨a1, rfl⟩ := List.getElem?_eq_some_iff.mp h1
    obtain ⟨a2, rfl⟩ := List.getElem?_eq_some_iff.mp h2
    rcases Nat.lt_or_eq_of_le hij with c | c
    · exact List.pairwise_iff_getElem.mp asc i j a1 a2 c
    · subst c
      exact Nat.le_refl _
  have eq : vs.take h = vs.drop m := le_sum_eq (by rw [List.length_take, List.length_drop]; omega) (fun i x y h1 h2 => by
    have hi : i < h := by
      have := (List.getElem?_eq_some_iff.mp h1).1
      rw [List.length_take] at this
      omega
    rw [List.getElem?_take_of_lt hi] at h1
    rw [List.getElem?_drop] at h2
    exact mono _ _ x y (by omega) h1 h2) e
  have step : ∀ i, i < h → vs[i]? = vs[m + i]? := fun i hi => by
    rw [← List.getElem?_drop, ← eq, List.getElem?_take_of_lt hi]
  obtain ⟨x0, h0⟩ : ∃ x0, vs[0]? = some x0 := ⟨_, List.getElem?_eq_getElem (by omega)⟩
  have all : ∀ j, j < h + m → vs[j]? = some x0 := by
    intro j
    induction j using Nat.strongRecOn with
    | _ j ih =>
      intro hj
      by_cases c : m ≤ j
      · have := step (j - m) (by omega)
        rw [show m + (j - m) = j by omega] at this
        rw [← this]
        exact ih (j - m) (by omega) (by omega)
      · obtain ⟨x, hx⟩ : ∃ x, vs[j]? = some x := ⟨_, List.getElem?_eq_getElem (by omega)⟩
        have h1 := mono 0 j x0 x (Nat.zero_le _) h0 hx
        have hm0 := step 0 (by omega)
        rw [h0] at hm0
        have h2 := mono j (m + 0) x x0 (by omega) hx hm0.symm
        rw [hx, show x = x0 by omega]
  have one : ∀ x ∈ vs, x = x0 := fun x hx => by
    obtain ⟨j, h1, rfl⟩ := List.getElem_of_mem hx
    have := all j (by omega)
    rw [List.getElem?_eq_getElem h1] at this
    exact Option.some.inj this
  intro x hx y hy
  rw [one x hx, one y hy]
section
variable {n d s q m : Nat} {rows : List (List Nat)} {w : Nat → Nat}
theorem load_phi (G : Tab n d rows) (lev : ∀ i, i < s → Lev n i (w i) rows) (hsd : s < d) {T D : List Nat} (nd : (T ++ D).Nodup) (lt : ∀ x ∈ T ++ D, x < n) (hT : T.length = q + 1) (hD : D.length = m) (hs : q + m = s) {L : List Nat} (aL : Asc L) (mL : ∀ y, y ∈ L ↔ y < n ∧ y ∉ D) :
    (∀ r ∈ rows, q + 1 ≤ (lvL L r).length) ∧ srt T ∈ combs L (q + 1) ∧ L.length = n - m ∧ heldN L (q + 1) rows (srt T) = phi m (q + 1) q w ((T.map (nb s rows (T ++ D))).sum) := by
  obtain ⟨ndT, ndD, dis⟩ := List.nodup_append.mp nd
  have pT := srt_perm T
  have pD := srt_perm D
  have hLn : ∀ y ∈ L, y < n := fun y hy => ((mL y).mp hy).1
  have hTL : ∀ y ∈ srt T, y ∈ L := fun y hy => (mL y).mpr ⟨lt y (List.mem_append_left _ (pT.mem_iff.mp hy)), fun z => dis y (pT.mem_iff.mp hy) y z rfl⟩
  have hdead : Asc (srt D) := srt_asc ndD
  have hmem : ∀ y, y ∈ srt D ↔ y < n ∧ y ∉ L := fun y => by
    rw [pD.mem_iff, mL]
    constructor
    · intro h
      exact ⟨lt y (List.mem_append_right _ h), fun z => z.2 h⟩
    · rintro ⟨h1, h2⟩
      exact Classical.byContradiction fun c => h2 ⟨h1, c⟩
  have lD : (srt D).length = m := by rw [pD.length_eq, hD]
  have lT : (srt T).length = q + 1 := by rw [pT.length_eq, hT]
  have lL : L.length = n - m := by
    have h1 := live_dead hdead fun y hy => ((hmem y).mp hy).1
    have h2 : (deadL n (srt D)).Perm L := (List.perm_ext_iff_of_nodup (asc_nodup (dead_asc _ _)) (asc_nodup aL)).mpr fun y => by rw [dead_mem, mL, pD.mem_iff]
    have h3 := h2.length_eq
    omega
  have hm : m ≤ n := by
    have h1 := subG_len ndD (ns := List.range n) fun y hy => List.mem_range.mpr (lt y (List.mem_append_right _ hy))
    rw [List.length_range] at h1
    omega
  have en := enough G aL hLn (q := q + 1) (by omega)
  refine ⟨en, ?_, lL, ?_⟩
  · rw [← lT]
    exact combs_mem L _ (ascSub (srt_asc ndT) aL hTL)
  · have top := held_top (w := w) G (srt_asc ndT) lT hTL hLn hdead hmem (by omega) en (fun i hi => lev i (by omega))
    rw [top, lD]
    congr 1
    rw [sum_perm (pT.map _)]
    congr 1
    refine List.map_congr_left fun x hx => ?_
    show cE (rows.map (edgE (q + m))) (srt ((srt T).erase x ++ srt D), x) = cE (rows.map (edgE s)) (srt ((T ++ D).erase x), x)
    rw [hs]
    congr 2
    refine srt_eq ?_
    rw [List.erase_append_left _ hx]
    exact (pT.erase x).append pD
theorem nb_le {a : Nat} (ha : ∀ e ∈ allE n s, cE (rows.map (edgE s)) e ≤ a) {S : List Nat} (nd : S.Nodup) (lt : ∀ x ∈ S, x < n) (hl : S.length = s + 1) : ∀ x ∈ S, nb s rows S x ≤ a := fun x hx => by
  have pm := srt_perm (S.erase x)
  have nE : (S.erase x).Nodup := nd.sublist List.erase_sublist
  refine ha _ (allE_mem (lt x hx) ?_ (srt_asc nE) fun z hz => ?_)
  · rw [pm.length_eq, List.length_erase_of_mem hx]
    omega
  · have h1 := (List.Nodup.mem_erase_iff nd).mp (pm.mem_iff.mp hz)
    exact ⟨lt z h1.2, fun e => h1.1 (by first | exact e | exact e.symm)⟩
theorem sum_le_all {f : Nat → Nat} {a : Nat} : ∀ {l : List Nat}, (∀ x ∈ l, f x ≤ a) → (l.map f).sum ≤ l.length * a
  | [], _ => by simp
  | x :: l, h => by
    rw [List.map_cons, List.sum_cons, List.length_cons, Nat.succ_mul]
    have h1 := sum_le_all fun y hy => h y (List.mem_cons_of_mem x hy)
    have h2 := h x List.mem_cons_self
    omega
theorem unev_core (G : Tab n d rows) (lev : ∀ i, i < s → Lev n i (w i) rows) (hsd : s < d) {T D : List Nat} (nd : (T ++ D).Nodup) (lt : ∀ x ∈ T ++ D, x < n) (hT : T.length = q + 1) (hD : D.length = m) (hs : q + m = s) {L : List Nat} (aL : Asc L) (mL : ∀ y, y ∈ L ↔ y < n ∧ y ∉ D)
    {F a : Nat} (hF : ∀ T ∈ combs L (q + 1), heldN L (q + 1) rows T = F) (hB : (T.map (nb s rows (T ++ D))).sum = (q + 1) * a) (ha : ∀ e ∈ allE n s, cE (rows.map (edgE s)) e ≤ a) : Lev n s a rows := by
  obtain ⟨en, hm, lL, top⟩ := load_phi (w := w) G lev hsd nd lt hT hD hs aL mL
  rw [hF _ hm, hB] at top
  have tot := held_total G aL en
  rw [sum_congr' (g := fun _ => F) hF, sum_const, combsLen, lL] at tot
  intro e he
  obtain ⟨h1, h2, h3, h4⟩ := allE_back he
  have hql : q ≤ e.1.length := by omega
  have nd0 : (e.2 :: e.1).Nodup := List.nodup_cons.mpr ⟨fun z => (h4 _ z).2 rfl, asc_nodup h3⟩
  have eq0 : (e.2 :: e.1.take q) ++ e.1.drop q = e.2 :: e.1 := by rw [List.cons_append, List.take_append_drop]
  have lt0 : ∀ x ∈ e.2 :: e.1, x < n := fun x hx => by
    rcases List.mem_cons.mp hx with rfl | h
    · exact h1
    · exact (h4 x h).1
  have hT0 : (e.2 :: e.1.take q).length = q + 1 := by rw [List.length_cons, List.length_take]; omega
  have hD0 : (e.1.drop q).length = m := by rw [List.length_drop]; omega
  obtain ⟨en0, hm0, lL0, top0⟩ := load_phi (w := w) G lev hsd (by rw [eq0]; exact nd0) (by rw [eq0]; exact lt0) hT0 hD0 hs (dead_asc n (e.1.drop q)) dead_mem
  have tot0 := held_total G (dead_asc n (e.1.drop q)) en0
  have low : ∀ U ∈ combs (deadL n (e.1.drop q)) (q + 1), heldN (deadL n (e.1.drop q)) (q + 1) rows U ≤ F := fun U hU => by
    obtain ⟨u1, u2⟩ := combs_good _ _ U hU
    have aU : Asc U := (dead_asc n (e.1.drop q)).sublist u2
    have uL : ∀ x ∈ U, x < n ∧ x ∉ e.1.drop q := fun x hx => (dead_mem x).mp (u2.subset hx)
    have ndU : (U ++ e.1.drop q).Nodup := List.nodup_append.mpr ⟨asc_nodup aU, (asc_nodup h3).sublist (List.drop_sublist _ _), fun x hx y hy e' => (uL x hx).2 (by rw [e']; exact hy)⟩
    have ltU : ∀ x ∈ U ++ e.1.drop q, x < n := fun x hx => by
      rcases List.mem_append.mp hx with hx | hx
      · exact (uL x hx).1
      · exact (h4 x (List.mem_of_mem_drop hx)).1
    obtain ⟨_, _, _, topU⟩ := load_phi (w := w) G lev hsd ndU ltU u1 hD0 hs (dead_asc n (e.1.drop q)) dead_mem
    rw [srt_self aU] at topU
    rw [topU, top]
    refine phi_le ?_
    rw [← u1]
    refine sum_le_all fun x hx => nb_le ha ndU ltU ?_ x (List.mem_append_left _ hx)
    rw [List.length_append, u1, hD0]
    omega
  have all := sum_top low (by rw [tot0, combsLen, lL0, tot]) _ hm0
  rw [top0, top] at all
  have sumE := phi_inj all
  have each := sum_top (l := e.2 :: e.1.take q) (F := a) (fun x hx => nb_le (S := (e.2 :: e.1.take q) ++ e.1.drop q) ha (by rw [eq0]; exact nd0) (by rw [eq0]; exact lt0) (by rw [eq0, List.length_cons]; omega) x (List.mem_append_left _ hx)) (by rw [hT0]; exact sumE) e.2 List.mem_cons_self
  rw [eq0] at each
  have : nb s rows (e.2 :: e.1) e.2 = cE (rows.map (edgE s)) e := by
    unfold nb
    rw [List.erase_cons_head, srt_self h3]
  rw [← this, each]
/-- servers in the order of their numbers: if both live sets share evenly, the level is equal -/
theorem unev_live (G : Tab n d rows) (lev : ∀ i, i < s → Lev n i (w i) rows) (hsd : s < d) {ss : List Nat} (nd : ss.Nodup) (lt : ∀ x ∈ ss, x < n) (hl : ss.length = s + 1) (asc : ss.Pairwise fun x y => nb s rows ss x ≤ nb s rows ss y) (hs : q + m = s) (hm : m = 0 → s = 0)
    {a : Nat} (ha : ∀ e ∈ allE n s, cE (rows.map (edgE s)) e ≤ a) (hx : ∃ x ∈ ss, nb s rows ss x = a) {L1 L2 : List Nat} (aL1 : Asc L1) (mL1 : ∀ y, y ∈ L1 ↔ y < n ∧ y ∉ ss.drop (q + 1)) (aL2 : Asc L2) (mL2 : ∀ y, y ∈ L2 ↔ y < n ∧ y ∉ ss.take m)
    {F1 F2 : Nat} (hF1 : ∀ T ∈ combs L1 (q + 1), heldN L1 (q + 1) rows T = F1) (hF2 : ∀ T ∈ combs L2 (q + 1), heldN L2 (q + 1) rows T = F2) : Lev n s a rows := by
  have e1 : ss.take (q + 1) ++ ss.drop (q + 1) = ss := List.take_append_drop _ _
  have l1 : (ss.take (q + 1)).length = q + 1 := by rw [List.length_take]; omega
  have l1d : (ss.drop (q + 1)).length = m := by rw [List.length_drop]; omega
  have l2 : (ss.drop m).length = q + 1 := by rw [List.length_drop]; omega
  have l2d : (ss.take m).length = m := by rw [List.length_take]; omega
  have p2 : (ss.drop m ++ ss.take m).Perm ss := List.perm_append_comm.trans (by rw [List.take_append_drop])
  obtain ⟨en1, hm1, lL1, top1⟩ := load_phi (w := w) G lev hsd (by rw [e1]; exact nd) (by rw [e1]; exact lt) l1 l1d hs aL1 mL1
  obtain ⟨en2, hm2, lL2, top2⟩ := load_phi (w := w) G lev hsd (p2.nodup_iff.mpr nd) (fun x h => lt x (p2.mem_iff.mp h)) l2 l2d hs aL2 mL2
  rw [hF1 _ hm1, e1] at top1
  rw [hF2 _ hm2] at top2
  have eB2 : ((ss.drop m).map (nb s rows (ss.drop m ++ ss.take m))) = (ss.drop m).map (nb s rows ss) := List.map_congr_left fun x _ => nb_perm p2 x
  rw [eB2] at top2
  have tot1 := held_total G aL1 en1
  have tot2 := held_total G aL2 en2
  rw [sum_congr' (g := fun _ => F1) hF1, sum_const, combsLen, lL1] at tot1
  rw [sum_congr' (g := fun _ => F2) hF2, sum_const, combsLen, lL2] at tot2
  have hC : 0 < C (n - m) (q + 1) := by
    rw [← lL1, ← combsLen]
    exact List.length_pos_of_mem hm1
  have hFF : F1 = F2 := Nat.eq_of_mul_eq_mul_left hC (tot1.trans tot2.symm)
  have sums : ((ss.take (q + 1)).map (nb s rows ss)).sum = ((ss.drop m).map (nb s rows ss)).sum := phi_inj (by rw [← top1, ← top2, hFF])
  have flat : ∀ x ∈ ss, nb s rows ss x = a := by
    obtain ⟨x0, hx0, e0⟩ := hx
    by_cases c : m = 0
    · have hs0 := hm c
      intro x hx
      have hl1 : ss.length = 1 := by omega
      match ss, hl1, hx, hx0 with
      | [z], _, hx, hx0 =>
        rw [List.mem_singleton.mp hx, ← e0, List.mem_singleton.mp hx0]
    · intro x hx
      rw [← e0]
      refine asc_flat (h := q + 1) (m := m) (by omega) (by omega) (vs := ss.map (nb s rows ss)) (by rw [List.length_map]; omega) (List.pairwise_map.mpr asc) ?_ _ (List.mem_map.mpr ⟨x, hx, rfl⟩) _ (List.mem_map.mpr ⟨x0, hx0, rfl⟩)
      rw [← List.map_take, ← List.map_drop]
      exact sums
  refine unev_core (w := w) (T := ss.take (q + 1)) (D := ss.drop (q + 1)) (a := a) G lev hsd (by rw [e1]; exact nd) (by rw [e1]; exact lt) l1 l1d hs aL1 mL1 hF1 ?_ ha
  rw [e1, sum_congr' (g := fun _ => a) fun x hx => flat x (List.mem_of_mem_take hx), sum_const, l1]
end
end Ef
namespace Ef
open PySem PySem.Spec PyProof.Rows L2
def topS (i : Nat) : Stmt := PySem.Challenge.pw_evenfailover_k18_tables_and_judging_by_k.main.body.getD i (.Pass ⟨0, 0, 0, 0⟩)
abbrev sPlain : Stmt := topS 6
abbrev NPlain : List Str := ["thing"]
theorem scPlain : FnScope ["thing"] ["thing"] (defScope sPlain) := ⟨rfl, rfl, rfl, by decide +kernel, rfl, by decide +kernel, by decide +kernel⟩
abbrev sBin : Stmt := topS 7
abbrev NBin : List Str := ["n", "k", "result", "step"]
theorem scBin : FnScope ["n", "k", "result", "step"] ["n", "k"] (defScope sBin) := ⟨rfl, rfl, rfl, by decide +kernel, rfl, by decide +kernel, by decide +kernel⟩
abbrev sEdge : Stmt := topS 8
abbrev NEdge : List Str := ["n", "size"]
theorem scEdge : FnScope ["n", "size"] ["n", "size"] (defScope sEdge) := ⟨rfl, rfl, rfl, by decide +kernel, rfl, by decide +kernel, by decide +kernel⟩
abbrev sParts : Stmt := topS 9
abbrev NParts : List Str := ["n", "depth"]
theorem scParts : FnScope ["n", "depth"] ["n", "depth"] (defScope sParts) := ⟨rfl, rfl, rfl, by decide +kernel, rfl, by decide +kernel, by decide +kernel⟩
abbrev sPoss : Stmt := topS 10
abbrev NPoss : List Str := ["n", "depth", "count", "part"]
theorem scPoss : FnScope ["n", "depth", "count", "part"] ["n", "depth", "count"] (defScope sPoss) := ⟨rfl, rfl, rfl, by decide +kernel, rfl, by decide +kernel, by decide +kernel⟩
abbrev sReachOf : Stmt := topS 11
abbrev NReachOf : List Str := ["n", "failures", "factor"]
theorem scReachOf : FnScope ["n", "failures", "factor"] ["n", "failures", "factor"] (defScope sReachOf) := ⟨rfl, rfl, rfl, by decide +kernel, rfl, by decide +kernel, by decide +kernel⟩
abbrev sChkP : Stmt := topS 12
abbrev NChkP : List Str := ["n", "depth", "count"]
theorem scChkP : FnScope ["n", "depth", "count"] ["n", "depth", "count"] (defScope sChkP) := ⟨rfl, rfl, rfl, by decide +kernel, rfl, by decide +kernel, by decide +kernel⟩
abbrev sCLevel : Stmt := topS 14
abbrev NCLevel : List Str := ["table", "size", "many", "order", "edge"]
theorem scCLevel : FnScope ["table", "size", "many", "order", "edge"] ["table", "size"] (defScope sCLevel) := ⟨rfl, rfl, rfl, by decide +kernel, rfl, by decide +kernel, by decide +kernel⟩
abbrev sLevNums : Stmt := topS 15
abbrev NLevNums : List Str := ["n", "table", "size", "many", "edge"]
theorem scLevNums : FnScope ["n", "table", "size", "many", "edge"] ["n", "table", "size"] (defScope sLevNums) := ⟨rfl, rfl, rfl, by decide +kernel, rfl, by decide +kernel, by decide +kernel⟩
abbrev sIsLev : Stmt := topS 16
abbrev NIsLev : List Str := ["n", "table", "size", "many"]
theorem scIsLev : FnScope ["n", "table", "size", "many"] ["n", "table", "size"] (defScope sIsLev) := ⟨rfl, rfl, rfl, by decide +kernel, rfl, by decide +kernel, by decide +kernel⟩
abbrev sReachE : Stmt := topS 17
abbrev NReachE : List Str := ["n", "table", "depth", "order", "size"]
theorem scReachE : FnScope ["n", "table", "depth", "order", "size"] ["n", "table"] (defScope sReachE) := ⟨rfl, rfl, rfl, by decide +kernel, rfl, by decide +kernel, by decide +kernel⟩
abbrev sSet : Stmt := topS 19
abbrev NSet : List Str := ["n", "thing", "least", "server"]
theorem scSet : FnScope ["n", "thing", "least", "server"] ["n", "thing"] (defScope sSet) := ⟨rfl, rfl, rfl, by decide +kernel, rfl, by decide +kernel, by decide +kernel⟩
abbrev sOut : Stmt := topS 20
abbrev NOut : List Str := ["n", "members", "taken", "others", "server"]
theorem scOut : FnScope ["n", "members", "taken", "others", "server"] ["n", "members"] (defScope sOut) := ⟨rfl, rfl, rfl, by decide +kernel, rfl, by decide +kernel, by decide +kernel⟩
abbrev sJoined : Stmt := topS 21
abbrev NJoined : List Str := ["members", "server"]
theorem scJoined : FnScope ["members", "server"] ["members", "server"] (defScope sJoined) := ⟨rfl, rfl, rfl, by decide +kernel, rfl, by decide +kernel, by decide +kernel⟩
abbrev sAmong : Stmt := topS 22
abbrev NAmong : List Str := ["servers", "size", "beginnings", "missing", "longer", "members", "start", "index"]
theorem scAmong : FnScope ["servers", "size", "beginnings", "missing", "longer", "members", "start", "index"] ["servers", "size"] (defScope sAmong) := ⟨rfl, rfl, rfl, by decide +kernel, rfl, by decide +kernel, by decide +kernel⟩
abbrev sWid : Stmt := topS 24
abbrev NWid : List Str := ["n", "depth", "count", "widths", "edges", "size"]
theorem scWid : FnScope ["n", "depth", "count", "widths", "edges", "size"] ["n", "depth", "count"] (defScope sWid) := ⟨rfl, rfl, rfl, by decide +kernel, rfl, by decide +kernel, by decide +kernel⟩
abbrev sFollow : Stmt := topS 25
abbrev NFollow : List Str := ["widths", "servers", "rest", "left", "taken", "width", "index", "server"]
theorem scFollow : FnScope ["widths", "servers", "rest", "left", "taken", "width", "index", "server"] ["widths", "servers", "rest"] (defScope sFollow) := ⟨rfl, rfl, rfl, by decide +kernel, rfl, by decide +kernel, by decide +kernel⟩
abbrev sIsL : Stmt := topS 28
abbrev NIsL : List Str := ["n", "depth", "thing", "seen", "server"]
theorem scIsL : FnScope ["n", "depth", "thing", "seen", "server"] ["n", "depth", "thing"] (defScope sIsL) := ⟨rfl, rfl, rfl, by decide +kernel, rfl, by decide +kernel, by decide +kernel⟩
abbrev sIsTab : Stmt := topS 29
abbrev NIsTab : List Str := ["n", "depth", "thing", "order"]
theorem scIsTab : FnScope ["n", "depth", "thing", "order"] ["n", "depth", "thing"] (defScope sIsTab) := ⟨rfl, rfl, rfl, by decide +kernel, rfl, by decide +kernel, by decide +kernel⟩
abbrev sStdT : Stmt := topS 30
abbrev NStdT : List Str := ["n", "depth", "count", "widths", "servers", "table", "number", "order", "rest"]
theorem scStdT : FnScope ["n", "depth", "count", "widths", "servers", "table", "number", "order", "rest"] ["n", "depth", "count"] (defScope sStdT) := ⟨rfl, rfl, rfl, by decide +kernel, rfl, by decide +kernel, by decide +kernel⟩
abbrev sHold : Stmt := topS 31
abbrev NHold : List Str := ["order", "live", "factor", "wanted", "found", "server"]
theorem scHold : FnScope ["order", "live", "factor", "wanted", "found", "server"] ["order", "live", "factor"] (defScope sHold) := ⟨rfl, rfl, rfl, by decide +kernel, rfl, by decide +kernel, by decide +kernel⟩
abbrev sHelds : Stmt := topS 32
abbrev NHelds : List Str := ["table", "live", "factor", "held", "order", "members"]
theorem scHelds : FnScope ["table", "live", "factor", "held", "order", "members"] ["table", "live", "factor"] (defScope sHelds) := ⟨rfl, rfl, rfl, by decide +kernel, rfl, by decide +kernel, by decide +kernel⟩
abbrev sLoads : Stmt := topS 33
abbrev NLoads : List Str := ["n", "table", "live", "factor", "held", "members"]
theorem scLoads : FnScope ["n", "table", "live", "factor", "held", "members"] ["n", "table", "live", "factor"] (defScope sLoads) := ⟨rfl, rfl, rfl, by decide +kernel, rfl, by decide +kernel, by decide +kernel⟩
abbrev sSLoads : Stmt := topS 34
abbrev NSLoads : List Str := ["n", "table", "live", "factor", "held", "server", "order"]
theorem scSLoads : FnScope ["n", "table", "live", "factor", "held", "server", "order"] ["n", "table", "live", "factor"] (defScope sSLoads) := ⟨rfl, rfl, rfl, by decide +kernel, rfl, by decide +kernel, by decide +kernel⟩
abbrev sChkR : Stmt := topS 36
abbrev NChkR : List Str := ["n", "table", "failures", "factor", "order"]
theorem scChkR : FnScope ["n", "table", "failures", "factor", "order"] ["n", "table", "failures", "factor"] (defScope sChkR) := ⟨rfl, rfl, rfl, by decide +kernel, rfl, by decide +kernel, by decide +kernel⟩
abbrev sFULev : Stmt := topS 37
abbrev NFULev : List Str := ["n", "table", "failures", "factor", "size"]
theorem scFULev : FnScope ["n", "table", "failures", "factor", "size"] ["n", "table", "failures", "factor"] (defScope sFULev) := ⟨rfl, rfl, rfl, by decide +kernel, rfl, by decide +kernel, by decide +kernel⟩
abbrev sIsEven : Stmt := topS 38
abbrev NIsEven : List Str := ["n", "table", "failures", "factor"]
theorem scIsEven : FnScope ["n", "table", "failures", "factor"] ["n", "table", "failures", "factor"] (defScope sIsEven) := ⟨rfl, rfl, rfl, by decide +kernel, rfl, by decide +kernel, by decide +kernel⟩
abbrev sSbl : Stmt := topS 39
abbrev NSbl : List Str := ["table", "size", "numbers", "members", "last", "servers", "number_of"]
theorem scSbl : FnScope ["table", "size", "numbers", "members", "last", "servers", "number_of"] ["table", "size"] (defScope sSbl) := ⟨rfl, rfl, rfl, by decide +kernel, rfl, by decide +kernel, by decide +kernel⟩
abbrev sUneq : Stmt := topS 40
abbrev NUneq : List Str := ["n", "table", "live", "size", "rows", "fewer", "least", "more", "most"]
theorem scUneq : FnScope ["n", "table", "live", "size", "rows", "fewer", "least", "more", "most"] ["n", "table", "live", "size"] (defScope sUneq) := ⟨rfl, rfl, rfl, by decide +kernel, rfl, by decide +kernel, by decide +kernel⟩
abbrev sWitn : Stmt := topS 41
abbrev NWitn : List Str := ["n", "table", "size", "factor", "servers", "dead", "held", "failed", "live", "pair"]
theorem scWitn : FnScope ["n", "table", "size", "factor", "servers", "dead", "held", "failed", "live", "pair"] ["n", "table", "size", "factor"] (defScope sWitn) := ⟨rfl, rfl, rfl, by decide +kernel, rfl, by decide +kernel, by decide +kernel⟩
abbrev sUnev : Stmt := topS 42
abbrev NUnev : List Str := ["n", "table", "failures", "factor", "size"]
theorem scUnev : FnScope ["n", "table", "failures", "factor", "size"] ["n", "table", "failures", "factor"] (defScope sUnev) := ⟨rfl, rfl, rfl, by decide +kernel, rfl, by decide +kernel, by decide +kernel⟩
abbrev sIsClaim : Stmt := topS 43
abbrev NIsClaim : List Str := ["n", "failures", "factor", "thing", "members", "live", "fewer", "more"]
theorem scIsClaim : FnScope ["n", "failures", "factor", "thing", "members", "live", "fewer", "more"] ["n", "failures", "factor", "thing"] (defScope sIsClaim) := ⟨rfl, rfl, rfl, by decide +kernel, rfl, by decide +kernel, by decide +kernel⟩
abbrev sShowsU : Stmt := topS 44
abbrev NShowsU : List Str := ["n", "table", "failures", "factor", "thing", "live", "fewer", "more", "held"]
theorem scShowsU : FnScope ["n", "table", "failures", "factor", "thing", "live", "fewer", "more", "held"] ["n", "table", "failures", "factor", "thing"] (defScope sShowsU) := ⟨rfl, rfl, rfl, by decide +kernel, rfl, by decide +kernel, by decide +kernel⟩
abbrev sPot : Stmt := topS 46
abbrev NPot : List Str := ["_law_script", "_law_k", "_law_cell", "_law_own"]
theorem scPot : FnScope ["_law_script", "_law_k", "_law_cell", "_law_own"] ["_law_script", "_law_k"] (defScope sPot) := ⟨rfl, rfl, rfl, by decide +kernel, rfl, by decide +kernel, by decide +kernel⟩
abbrev sTake : Stmt := topS 47
abbrev NTake : List Str := ["_law_pot_here", "_law_most", "_law_digit", "_law_prime", "_law_mixed"]
theorem scTake : FnScope ["_law_pot_here", "_law_most", "_law_digit", "_law_prime", "_law_mixed"] ["_law_pot_here", "_law_most"] (defScope sTake) := ⟨rfl, rfl, rfl, by decide +kernel, rfl, by decide +kernel, by decide +kernel⟩
abbrev sTr18 : Stmt := topS 48
abbrev NTr18 : List Str := ["_law_rows", "_law_some", "_law_many", "_law_one", "_law_two"]
theorem scTr18 : FnScope ["_law_rows", "_law_some", "_law_many", "_law_one", "_law_two"] ["_law_rows", "_law_some", "_law_many"] (defScope sTr18) := ⟨rfl, rfl, rfl, by decide +kernel, rfl, by decide +kernel, by decide +kernel⟩
abbrev sJr18 : Stmt := topS 49
abbrev NJr18 : List Str := ["_law_rows", "_law_away", "_law_many", "_law_paper", "_law_one", "_law_two"]
theorem scJr18 : FnScope ["_law_rows", "_law_away", "_law_many", "_law_paper", "_law_one", "_law_two"] ["_law_rows", "_law_away", "_law_many"] (defScope sJr18) := ⟨rfl, rfl, rfl, by decide +kernel, rfl, by decide +kernel, by decide +kernel⟩
abbrev sLaw : Stmt := topS 50
abbrev NLaw : List Str := ["_law_script", "_law_k", "_law_pot_here", "_law_rows", "_law_some", "_law_many", "_law_away", "_law_kept"]
theorem scLaw : FnScope ["_law_script", "_law_k", "_law_pot_here", "_law_rows", "_law_some", "_law_many", "_law_away", "_law_kept"] ["_law_script"] (defScope sLaw) := ⟨rfl, rfl, rfl, by decide +kernel, rfl, by decide +kernel, by decide +kernel⟩
abbrev sSbl_number_of : Stmt := (defBody sSbl).getD 3 (.Pass ⟨0, 0, 0, 0⟩)
abbrev NSbl_number_of : List Str := ["server", "numbers", "servers", "others", "other"]
theorem nscSbl_number_of : NScopeC NSbl_number_of "server" ["numbers", "servers"] (defScope sSbl_number_of) := nscopeC_by (by decide +kernel) (fun _ _ => rfl) (fun _ => rfl)
def nmSbl : Nat → Nat → Str := fun l _ => if l = 187 then ("servers_by_level_number" : Str) ++ ".<locals>." ++ "number_of" else ("servers_by_level_number" : Str) ++ ".<locals>." ++ "<lambda>"
def nmUneq : Nat → Nat → Str := fun _ _ => ("unequal_sets" : Str) ++ ".<locals>." ++ "<lambda>"
abbrev sNotP : Stmt := inClass (topS 2) 0
theorem scNotP : FnScope ["self", "count"] ["self", "count"] (defScope sNotP) := ⟨rfl, rfl, rfl, by decide +kernel, rfl, by decide +kernel, by decide +kernel⟩
abbrev sTooM : Stmt := inClass (topS 3) 0
theorem scTooM : FnScope ["self", "count"] ["self", "count"] (defScope sTooM) := ⟨rfl, rfl, rfl, by decide +kernel, rfl, by decide +kernel, by decide +kernel⟩
abbrev sTooS : Stmt := inClass (topS 4) 0
theorem scTooS : FnScope ["self", "order"] ["self", "order"] (defScope sTooS) := ⟨rfl, rfl, rfl, by decide +kernel, rfl, by decide +kernel, by decide +kernel⟩
/-- what stands behind the top: each def, how it binds, and that the built-ins' names are free -/
structure Txt (K : PySem.W.Frag) (mg : Str → Option Value) where
  fPlain : Addr
  fdPlain : FuncData
  FPlain : Fun K "is_plain_int" "is_plain_int" sPlain fPlain fdPlain
  bPlain : Binds K fdPlain ["thing"] []
  gPlain : mg "is_plain_int" = some (.ref fPlain)
  fBin : Addr
  fdBin : FuncData
  FBin : Fun K "binomial" "binomial" sBin fBin fdBin
  bBin : Binds K fdBin ["n", "k"] []
  gBin : mg "binomial" = some (.ref fBin)
  fEdge : Addr
  fdEdge : FuncData
  FEdge : Fun K "edge_divisor" "edge_divisor" sEdge fEdge fdEdge
  bEdge : Binds K fdEdge ["n", "size"] []
  gEdge : mg "edge_divisor" = some (.ref fEdge)
  fParts : Addr
  fdParts : FuncData
  FParts : Fun K "level_parts" "level_parts" sParts fParts fdParts
  bParts : Binds K fdParts ["n", "depth"] []
  gParts : mg "level_parts" = some (.ref fParts)
  fPoss : Addr
  fdPoss : FuncData
  FPoss : Fun K "is_possible" "is_possible" sPoss fPoss fdPoss
  bPoss : Binds K fdPoss ["n", "depth", "count"] []
  gPoss : mg "is_possible" = some (.ref fPoss)
  fReachOf : Addr
  fdReachOf : FuncData
  FReachOf : Fun K "reach_of" "reach_of" sReachOf fReachOf fdReachOf
  bReachOf : Binds K fdReachOf ["n", "failures", "factor"] []
  gReachOf : mg "reach_of" = some (.ref fReachOf)
  fChkP : Addr
  fdChkP : FuncData
  FChkP : Fun K "check_possible" "check_possible" sChkP fChkP fdChkP
  bChkP : Binds K fdChkP ["n", "depth", "count"] []
  gChkP : mg "check_possible" = some (.ref fChkP)
  fCLevel : Addr
  fdCLevel : FuncData
  FCLevel : Fun K "count_level" "count_level" sCLevel fCLevel fdCLevel
  bCLevel : Binds K fdCLevel ["table", "size"] []
  gCLevel : mg "count_level" = some (.ref fCLevel)
  fLevNums : Addr
  fdLevNums : FuncData
  FLevNums : Fun K "level_numbers" "level_numbers" sLevNums fLevNums fdLevNums
  bLevNums : Binds K fdLevNums ["n", "table", "size"] []
  gLevNums : mg "level_numbers" = some (.ref fLevNums)
  fIsLev : Addr
  fdIsLev : FuncData
  FIsLev : Fun K "is_level" "is_level" sIsLev fIsLev fdIsLev
  bIsLev : Binds K fdIsLev ["n", "table", "size"] []
  gIsLev : mg "is_level" = some (.ref fIsLev)
  fReachE : Addr
  fdReachE : FuncData
  FReachE : Fun K "even_reach" "even_reach" sReachE fReachE fdReachE
  bReachE : Binds K fdReachE ["n", "table"] []
  gReachE : mg "even_reach" = some (.ref fReachE)
  fSet : Addr
  fdSet : FuncData
  FSet : Fun K "is_set" "is_set" sSet fSet fdSet
  bSet : Binds K fdSet ["n", "thing"] []
  gSet : mg "is_set" = some (.ref fSet)
  fOut : Addr
  fdOut : FuncData
  FOut : Fun K "outside" "outside" sOut fOut fdOut
  bOut : Binds K fdOut ["n", "members"] []
  gOut : mg "outside" = some (.ref fOut)
  fJoined : Addr
  fdJoined : FuncData
  FJoined : Fun K "joined" "joined" sJoined fJoined fdJoined
  bJoined : Binds K fdJoined ["members", "server"] []
  gJoined : mg "joined" = some (.ref fJoined)
  fAmong : Addr
  fdAmong : FuncData
  FAmong : Fun K "sets_among" "sets_among" sAmong fAmong fdAmong
  bAmong : Binds K fdAmong ["servers", "size"] []
  gAmong : mg "sets_among" = some (.ref fAmong)
  fWid : Addr
  fdWid : FuncData
  FWid : Fun K "level_widths" "level_widths" sWid fWid fdWid
  bWid : Binds K fdWid ["n", "depth", "count"] []
  gWid : mg "level_widths" = some (.ref fWid)
  fFollow : Addr
  fdFollow : FuncData
  FFollow : Fun K "follow" "follow" sFollow fFollow fdFollow
  bFollow : Binds K fdFollow ["widths", "servers", "rest"] []
  gFollow : mg "follow" = some (.ref fFollow)
  fIsL : Addr
  fdIsL : FuncData
  FIsL : Fun K "is_list" "is_list" sIsL fIsL fdIsL
  bIsL : Binds K fdIsL ["n", "depth", "thing"] []
  gIsL : mg "is_list" = some (.ref fIsL)
  fIsTab : Addr
  fdIsTab : FuncData
  FIsTab : Fun K "is_table" "is_table" sIsTab fIsTab fdIsTab
  bIsTab : Binds K fdIsTab ["n", "depth", "thing"] []
  gIsTab : mg "is_table" = some (.ref fIsTab)
  fStdT : Addr
  fdStdT : FuncData
  FStdT : Fun K "standard_table" "standard_table" sStdT fStdT fdStdT
  bStdT : Binds K fdStdT ["n", "depth", "count"] []
  gStdT : mg "standard_table" = some (.ref fStdT)
  fHold : Addr
  fdHold : FuncData
  FHold : Fun K "holders" "holders" sHold fHold fdHold
  bHold : Binds K fdHold ["order", "live", "factor"] []
  gHold : mg "holders" = some (.ref fHold)
  fHelds : Addr
  fdHelds : FuncData
  FHelds : Fun K "held_by_sets" "held_by_sets" sHelds fHelds fdHelds
  bHelds : Binds K fdHelds ["table", "live", "factor"] []
  gHelds : mg "held_by_sets" = some (.ref fHelds)
  fLoads : Addr
  fdLoads : FuncData
  FLoads : Fun K "loads" "loads" sLoads fLoads fdLoads
  bLoads : Binds K fdLoads ["n", "table", "live", "factor"] []
  gLoads : mg "loads" = some (.ref fLoads)
  fSLoads : Addr
  fdSLoads : FuncData
  FSLoads : Fun K "server_loads" "server_loads" sSLoads fSLoads fdSLoads
  bSLoads : Binds K fdSLoads ["n", "table", "live", "factor"] []
  gSLoads : mg "server_loads" = some (.ref fSLoads)
  fChkR : Addr
  fdChkR : FuncData
  FChkR : Fun K "check_reached" "check_reached" sChkR fChkR fdChkR
  bChkR : Binds K fdChkR ["n", "table", "failures", "factor"] []
  gChkR : mg "check_reached" = some (.ref fChkR)
  fFULev : Addr
  fdFULev : FuncData
  FFULev : Fun K "first_uneven_level" "first_uneven_level" sFULev fFULev fdFULev
  bFULev : Binds K fdFULev ["n", "table", "failures", "factor"] []
  gFULev : mg "first_uneven_level" = some (.ref fFULev)
  fIsEven : Addr
  fdIsEven : FuncData
  FIsEven : Fun K "is_even" "is_even" sIsEven fIsEven fdIsEven
  bIsEven : Binds K fdIsEven ["n", "table", "failures", "factor"] []
  gIsEven : mg "is_even" = some (.ref fIsEven)
  fSbl : Addr
  fdSbl : FuncData
  FSbl : Fun K "servers_by_level_number" "servers_by_level_number" sSbl fSbl fdSbl
  bSbl : Binds K fdSbl ["table", "size"] []
  gSbl : mg "servers_by_level_number" = some (.ref fSbl)
  fUneq : Addr
  fdUneq : FuncData
  FUneq : Fun K "unequal_sets" "unequal_sets" sUneq fUneq fdUneq
  bUneq : Binds K fdUneq ["n", "table", "live", "size"] []
  gUneq : mg "unequal_sets" = some (.ref fUneq)
  fWitn : Addr
  fdWitn : FuncData
  FWitn : Fun K "witness_at" "witness_at" sWitn fWitn fdWitn
  bWitn : Binds K fdWitn ["n", "table", "size", "factor"] []
  gWitn : mg "witness_at" = some (.ref fWitn)
  fUnev : Addr
  fdUnev : FuncData
  FUnev : Fun K "uneven" "uneven" sUnev fUnev fdUnev
  bUnev : Binds K fdUnev ["n", "table", "failures", "factor"] []
  gUnev : mg "uneven" = some (.ref fUnev)
  fIsClaim : Addr
  fdIsClaim : FuncData
  FIsClaim : Fun K "is_claim" "is_claim" sIsClaim fIsClaim fdIsClaim
  bIsClaim : Binds K fdIsClaim ["n", "failures", "factor", "thing"] []
  gIsClaim : mg "is_claim" = some (.ref fIsClaim)
  fShowsU : Addr
  fdShowsU : FuncData
  FShowsU : Fun K "shows_uneven" "shows_uneven" sShowsU fShowsU fdShowsU
  bShowsU : Binds K fdShowsU ["n", "table", "failures", "factor", "thing"] []
  gShowsU : mg "shows_uneven" = some (.ref fShowsU)
  fPot : Addr
  fdPot : FuncData
  FPot : Fun K "_law_pot" "_law_pot" sPot fPot fdPot
  bPot : Binds K fdPot ["_law_script", "_law_k"] []
  gPot : mg "_law_pot" = some (.ref fPot)
  fTake : Addr
  fdTake : FuncData
  FTake : Fun K "_law_take" "_law_take" sTake fTake fdTake
  bTake : Binds K fdTake ["_law_pot_here", "_law_most"] []
  gTake : mg "_law_take" = some (.ref fTake)
  fTr18 : Addr
  fdTr18 : FuncData
  FTr18 : Fun K "_law_tables_right" "_law_tables_right" sTr18 fTr18 fdTr18
  bTr18 : Binds K fdTr18 ["_law_rows", "_law_some", "_law_many"] []
  gTr18 : mg "_law_tables_right" = some (.ref fTr18)
  fJr18 : Addr
  fdJr18 : FuncData
  FJr18 : Fun K "_law_judged_right" "_law_judged_right" sJr18 fJr18 fdJr18
  bJr18 : Binds K fdJr18 ["_law_rows", "_law_away", "_law_many"] []
  gJr18 : mg "_law_judged_right" = some (.ref fJr18)
  kIsTab_thing_depth_n : KBinds K fdIsTab ["n", "depth", "thing"] ["thing", "depth", "n"] (permL [2, 1, 0] 3) (permL [2, 1, 0] 3)
  kStdT_count_depth_n : KBinds K fdStdT ["n", "depth", "count"] ["count", "depth", "n"] (permL [2, 1, 0] 3) (permL [2, 1, 0] 3)
  kHold_factor_live_order : KBinds K fdHold ["order", "live", "factor"] ["factor", "live", "order"] (permL [2, 1, 0] 3) (permL [2, 1, 0] 3)
  kLoads_factor_live_table_n : KBinds K fdLoads ["n", "table", "live", "factor"] ["factor", "live", "table", "n"] (permL [3, 2, 1, 0] 4) (permL [3, 2, 1, 0] 4)
  kSLoads_factor_live_table_n : KBinds K fdSLoads ["n", "table", "live", "factor"] ["factor", "live", "table", "n"] (permL [3, 2, 1, 0] 4) (permL [3, 2, 1, 0] 4)
  kIsEven_factor_failures_table_n : KBinds K fdIsEven ["n", "table", "failures", "factor"] ["factor", "failures", "table", "n"] (permL [3, 2, 1, 0] 4) (permL [3, 2, 1, 0] 4)
  kUnev_factor_failures_table_n : KBinds K fdUnev ["n", "table", "failures", "factor"] ["factor", "failures", "table", "n"] (permL [3, 2, 1, 0] 4) (permL [3, 2, 1, 0] 4)
  kShowsU_thing_factor_failures_table_n : KBinds K fdShowsU ["n", "table", "failures", "factor", "thing"] ["thing", "factor", "failures", "table", "n"] (permL [4, 3, 2, 1, 0] 5) (permL [4, 3, 2, 1, 0] 5)
  kReachE_table_n : KBinds K fdReachE ["n", "table"] ["table", "n"] (permL [1, 0] 2) (permL [1, 0] 2)
  kLevNums_size_table_n : KBinds K fdLevNums ["n", "table", "size"] ["size", "table", "n"] (permL [2, 1, 0] 3) (permL [2, 1, 0] 3)
  kIsLev_size_table_n : KBinds K fdIsLev ["n", "table", "size"] ["size", "table", "n"] (permL [2, 1, 0] 3) (permL [2, 1, 0] 3)
  cBase : Addr
  gcBase : mg "FailoverError" = some (.ref cBase)
  btBase : BaseT K cBase
  cNotP : Addr
  gcNotP : mg "NotPossible" = some (.ref cNotP)
  fNotP : Addr
  fdNotP : FuncData
  FNotP : Fun K "__init__" "NotPossible.__init__" sNotP fNotP fdNotP
  bNotP : Binds K fdNotP ["self", "count"] []
  eNotP : ErrT K cNotP fNotP "count" cBase
  cTooM : Addr
  gcTooM : mg "TooMany" = some (.ref cTooM)
  fTooM : Addr
  fdTooM : FuncData
  FTooM : Fun K "__init__" "TooMany.__init__" sTooM fTooM fdTooM
  bTooM : Binds K fdTooM ["self", "count"] []
  eTooM : ErrT K cTooM fTooM "count" cBase
  cTooS : Addr
  gcTooS : mg "TooShort" = some (.ref cTooS)
  fTooS : Addr
  fdTooS : FuncData
  FTooS : Fun K "__init__" "TooShort.__init__" sTooS fTooS fdTooS
  bTooS : Binds K fdTooS ["self", "order"] []
  eTooS : ErrT K cTooS fTooS "order" cBase
  tMOST_LISTS : Tok
  gMOST_LISTS : mg "MOST_LISTS" = some (.int 5000 tMOST_LISTS)
  n_ValueError : mg "ValueError" = none
  n_abs : mg "abs" = none
  n_bool : mg "bool" = none
  n_int : mg "int" = none
  n_isinstance : mg "isinstance" = none
  n_len : mg "len" = none
  n_list : mg "list" = none
  n_max : mg "max" = none
  n_min : mg "min" = none
  n_range : mg "range" = none
  n_repr : mg "repr" = none
  n_set : mg "set" = none
  n_sorted : mg "sorted" = none
  n_tuple : mg "tuple" = none
  ccSbl : Addr
  ppSbl : Addr
  coSbl : CodeOf K fSbl ccSbl
  ccUneq : Addr
  ppUneq : Addr
  coUneq : CodeOf K fUneq ccUneq
structure TBs {K : PySem.W.Frag} {mg : Str → Option Value} (T : Txt K mg) (base : Heap) : Prop where
  tbSbl : LamX.TabB base mg T.ccSbl T.ppSbl
  tbUneq : LamX.TabB base mg T.ccUneq T.ppUneq
  neSbl_Uneq : T.ppSbl ≠ T.ppUneq
def tabsOf {K : PySem.W.Frag} {mg : Str → Option Value} (T : Txt K mg) : List NdefX.NTab := [(T.ppSbl, nmSbl), (T.ppUneq, nmUneq)]
/-! ### is_plain_int -/
def tyNames : List String := ["NoneType", "bool", "int", "str", "list", "tuple", "dict"]
def spPlain (K : PySem.W.Frag) : Sp := fun vs H Q _ => ∃ (v : V) (t : String), vs = [v] ∧ TyX K H v (.type t) ∧ t ∈ tyNames ∧ Q (.bl (t == "int")) H
theorem ty_cases {t : String} (h : t ∈ tyNames) : t = "NoneType" ∨ t = "bool" ∨ t = "int" ∨ t = "str" ∨ t = "list" ∨ t = "tuple" ∨ t = "dict" := by
  unfold tyNames at h
  simp only [List.mem_cons, List.not_mem_nil, or_false] at h
  exact h
theorem kit_int {K : PySem.W.Frag} {t : String} (h : t ∈ tyNames) : PySem.W.kitOne K (.type t) (.type "int") = some (t == "int" || t == "bool") := by
  rcases ty_cases h with rfl | rfl | rfl | rfl | rfl | rfl | rfl <;> exact kit_ty (by decide +kernel)
theorem kit_bool {K : PySem.W.Frag} {t : String} (h : t ∈ tyNames) : PySem.W.kitOne K (.type t) (.type "bool") = some (t == "bool") := by
  rcases ty_cases h with rfl | rfl | rfl | rfl | rfl | rfl | rfl <;> exact kit_ty (by decide +kernel)
theorem kit_tuple {K : PySem.W.Frag} {t : String} (h : t ∈ tyNames) : PySem.W.kitOne K (.type t) (.type "tuple") = some (t == "tuple") := by
  rcases ty_cases h with rfl | rfl | rfl | rfl | rfl | rfl | rfl <;> exact kit_ty (by decide +kernel)
section
variable {P : Program} {w : World} {K : PySem.W.Frag} {mg : Str → Option Value} {base : Heap}
theorem ok_plain (T : Txt K mg) {j : Nat} : FnOk P w K mg base CX0 (j + 1) T.fPlain T.fdPlain ["thing"] (spPlain K) := by
  refine T.FPlain.ok scPlain (fun vs H Q E h => ?_) (fun cdv A outer s H vs Q E hr h => ?_)
  · obtain ⟨v, t, rfl, _⟩ := h
    rfl
  · obtain ⟨v, t, rfl, ty, ht, q⟩ := h
    refine ⟨_, pss_one (ps_ret (pe_and (pe_callB call_isi (by rfl) T.n_isinstance (by decide +kernel) (pa_cons (pv 0) (pa_cons (pe_bltn (v := .ty "int") (by rfl) T.n_int (by decide +kernel) rfl) pa_nil)))
      (pe_one (pe_not (pe_callB call_isi (by rfl) T.n_isinstance (by decide +kernel) (pa_cons (pv 0) (pa_cons (pe_bltn (v := .ty "bool") (by rfl) T.n_bool (by decide +kernel) rfl) pa_nil))))))), ?_⟩
    refine ⟨v, rfl, v, .ty "int", _, _, _, rfl, .ty _, ty, kit_int ht, _, rfl, ?_⟩
    rcases ty_cases ht with rfl | rfl | rfl | rfl | rfl | rfl | rfl
    · exact iteF q
    · exact iteT ⟨v, rfl, v, .ty "bool", _, _, _, rfl, .ty _, ty, kit_bool ht, _, rfl, q⟩
    · exact iteT ⟨v, rfl, v, .ty "bool", _, _, _, rfl, .ty _, ty, kit_bool ht, _, rfl, q⟩
    · exact iteF q
    · exact iteF q
    · exact iteF q
    · exact iteF q
end
/-! ### binomial -/
def spBin : Sp := fun vs H Q _ => ∃ n k : Int, vs = [.int n, .int k] ∧ n ≤ 60 ∧ Q (.int (binZ n k)) H
section
variable {P : Program} {w : World} {K : PySem.W.Frag} {mg : Str → Option Value} {base : Heap}
theorem ok_bin (T : Txt K mg) {j : Nat} : FnOk P w K mg base CX0 (j + 1) T.fBin T.fdBin ["n", "k"] spBin := by
  refine T.FBin.ok scBin (fun vs H Q E h => ?_) (fun cdv A outer s H vs Q E hr h => ?_)
  · obtain ⟨n, k, rfl, _⟩ := h
    rfl
  · obtain ⟨n, k, rfl, hn, q⟩ := h
    refine ⟨_, pss_cons (ps_if (PW.pt (pw_or (pt_cmpR op_lt (pv 1) pe_int (nomark _)) (pw_or1 (pt_cmpR op_gt (pv 1) (pv 0) (nomark _))))) (pss_one (ps_ret pe_int)) pss_nil)
      (pss_cons (ps_set (i := 2) scBin.nd rfl (.inl rfl) pe_int)
      (pss_cons (ps_for PassesOwn.never rfl (pi_range2 (by rfl) T.n_range (pa_cons pe_int (pa_cons (pe_op op_add (pe_callB (call_min2 rfl) (by rfl) T.n_min (by decide +kernel) (pa_cons (pv 1) (pa_cons (pe_op op_sub (pv 0) (pv 1)) pa_nil))) pe_int) pa_nil)))
          (pg_name (i := 3) scBin.nd rfl (.inl rfl))
          (pss_one (ps_set (i := 2) scBin.nd rfl (.inl rfl) (pe_op op_fdiv (pe_op op_mul (pv 2) (pe_op op_sub (pe_op op_add (pv 0) pe_int) (pv 3))) (pv 3)))))
      (pss_one (ps_ret (pv 2))))), ?_⟩
    refine ⟨_, rfl, _, _, rfl, rfl, _, rfl, ite2 (fun h1 => ?_) (fun h1 => ?_)⟩
    · have e : binZ n k = 0 := if_pos (.inl (of_decide_eq_true h1))
      rw [e] at q
      exact iteT q
    · refine ⟨_, rfl, _, rfl, _, _, rfl, rfl, _, rfl, ite2 (fun h2 => ?_) (fun h2 => ?_)⟩
      · have e : binZ n k = 0 := if_pos (.inr (of_decide_eq_true h2))
        rw [e] at q
        exact q
      · have k0 : 0 ≤ k := by
          have := of_decide_eq_false (Bool.eq_false_iff.mpr h1)
          omega
        have kn : k ≤ n := by
          have := of_decide_eq_false (Bool.eq_false_iff.mpr h2)
          omega
        obtain ⟨a, rfl⟩ := Int.eq_ofNat_of_zero_le k0
        obtain ⟨b, rfl⟩ := Int.eq_ofNat_of_zero_le (Int.le_trans k0 kn)
        have hab : a ≤ b := by omega
        have hb : b ≤ 60 := by omega
        have em : (if (b : Int) - (a : Int) < (a : Int) then (b : Int) - (a : Int) else (a : Int)) = ((min a (b - a) : Nat) : Int) := by
          by_cases c : b - a < a
          · rw [if_pos (by omega), Nat.min_eq_right (by omega)]
            omega
          · rw [if_neg (by omega), Nat.min_eq_left (by omega)]
        refine ⟨_, rfl, _, rfl, _, rfl, _, _, rfl, rfl, _, _, rfl, _, _, rfl, rfl, ?_⟩
        rw [em]
        refine ⟨_, _, rfl, ⟨by decide, by decide, by omega, by omega⟩, ?_⟩
        refine for_range (lo := 1) (n := (((min a (b - a) : Nat) : Int) + 1 - 1).toNat) (fun i σ H2 => ∃ v, σ = [some (.int b), some (.int a), some (.int (C b i)), v] ∧ H2 = H) ?_ ?_ ?_
        · exact ⟨none, by rw [C_zero]; rfl, rfl⟩
        · rintro i σ H2 hi ⟨v, rfl, rfl⟩
          have hib : i < b := by omega
          have c60 := C_60 b i hb
          refine ⟨_, rfl, _, rfl, _, _, rfl, rfl, _, rfl, _, _, rfl, rfl, _, _, rfl, rfl, .inl ⟨by omega, by omega⟩, _, rfl, _, _, rfl, rfl, ⟨by omega, by omega⟩, ?_⟩
          refine ⟨some (.int (1 + (i : Int))), ?_, rfl⟩
          show [some (V.int (b : Int)), some (V.int (a : Int)), some (V.int (((C b i : Int) * ((b : Int) + 1 - (1 + (i : Int)))) / (1 + (i : Int)))), some (V.int (1 + (i : Int)))] = _
          rw [C_div b i hib]
        · rintro σ H2 ⟨v, rfl, rfl⟩
          refine ⟨_, rfl, ?_⟩
          have e1 : (((min a (b - a) : Nat) : Int) + 1 - 1).toNat = min a (b - a) := by omega
          have e2 : binZ (b : Int) (a : Int) = ((C b (((min a (b - a) : Nat) : Int) + 1 - 1).toNat : Nat) : Int) := by
            rw [e1, C_min b a hab]
            exact binZ_nat b a
          rw [e2] at q
          exact q
end
/-! ### edge_divisor -/
def spEdge : Sp := fun vs H Q _ => ∃ n d : Nat, vs = [.int n, .int d] ∧ n ≤ 60 ∧ 1 ≤ n ∧ Q (.int ((n * C (n - 1) d : Nat) : Int)) H
section
variable {P : Program} {w : World} {K : PySem.W.Frag} {mg : Str → Option Value} {base : Heap}
theorem ok_edge (T : Txt K mg) {j : Nat} : FnOk P w K mg base CX0 (j + 2) T.fEdge T.fdEdge ["n", "size"] spEdge := by
  refine T.FEdge.ok scEdge (fun vs H Q E h => ?_) (fun cdv A outer s H vs Q E hr h => ?_)
  · obtain ⟨n, d, rfl, _⟩ := h
    rfl
  · obtain ⟨n, d, rfl, hn, h1, q⟩ := h
    refine ⟨_, pss_one (ps_ret (pe_op op_mul (pv 0) (pe_call (ok_bin T) hr (by rfl) T.gBin T.FBin.kp T.bBin .nil pass0 (pa_cons (pe_op op_sub (pv 0) pe_int) (pa_cons (pv 1) pa_nil))))), ?_⟩
    have e : binZ ((n : Int) - 1) (d : Int) = (C (n - 1) d : Int) := by
      rw [show (n : Int) - 1 = ((n - 1 : Nat) : Int) by omega]
      exact binZ_nat (n - 1) d
    refine ⟨_, rfl, _, rfl, _, _, rfl, rfl, _, rfl, _, _, rfl, by omega, _, _, rfl, rfl, .inl ⟨by omega, by omega⟩, ?_⟩
    rw [e]
    rw [Int.natCast_mul] at q
    exact q
end
/-! ### tuples and lists of servers -/
def setV (ms : List Nat) : List V := ms.map fun (m : Nat) => V.int (m : Int)
theorem setV_app (a b : List Nat) : setV (a ++ b) = setV a ++ setV b := List.map_append
theorem setV_at {ms : List Nat} {i m : Nat} (h : ms[i]? = some m) : (setV ms)[i]? = some (V.int (m : Int)) := by
  unfold setV
  rw [List.getElem?_map, h]
  rfl
theorem setV_len (ms : List Nat) : (setV ms).length = ms.length := List.length_map _
theorem setV_range (n : Nat) : rgV 0 (n : Int) = setV (List.range' 0 n) := by
  unfold setV
  have e : ((n : Int) - 0).toNat = n := by omega
  unfold rgV
  rw [e, List.range_eq_range']
  refine List.map_congr_left fun i _ => ?_
  rw [Int.zero_add]
theorem seq_at {k n : Nat} (h : k < n) : seqIndex? (k : Int) n = some k := by
  unfold seqIndex?
  simp only [show ¬ ((k : Int) < 0) by omega, if_false]
  rw [if_pos]
  · rw [Int.toNat_natCast]
  · rw [Bool.and_eq_true]
    exact ⟨decide_eq_true (by omega), decide_eq_true (by omega)⟩
theorem SqL.is {K : PySem.W.Frag} {H : Hp} {a : Addr} {xs ys : List V} (h : SqL K H a xs) (e : xs = ys) : SqL K H a ys := e ▸ h
theorem setV_erase : ∀ (l : List Nat) (k : Nat), (setV l).eraseIdx k = setV (l.eraseIdx k)
  | [], _ => rfl
  | _ :: _, 0 => rfl
  | a :: r, k + 1 => congrArg (V.int (a : Int) :: ·) (setV_erase r k)
theorem setV_ints (ms : List Nat) : setV ms = (ms.map fun (m : Nat) => (m : Int)).map V.int := by
  unfold setV
  rw [List.map_map]
  rfl
theorem ints_back {ns : List Int} {ms : List Nat} (h : ns.Perm (ms.map fun (m : Nat) => (m : Int))) : ∃ ks : List Nat, ns = (ks.map fun (m : Nat) => (m : Int)) ∧ ks.Perm ms := by
  have e : ∀ x ∈ ns, ((x.toNat : Nat) : Int) = x := fun x hx => by
    obtain ⟨m, _, rfl⟩ := List.mem_map.mp (h.mem_iff.mp hx)
    simp
  refine ⟨ns.map Int.toNat, ?_, ?_⟩
  · rw [List.map_map]
    conv => lhs; rw [← List.map_id ns]
    exact List.map_congr_left fun x hx => (e x hx).symm
  · have h2 := h.map Int.toNat
    rw [List.map_map] at h2
    have e2 : (ms.map (Int.toNat ∘ fun (m : Nat) => (m : Int))) = ms := by
      conv => rhs; rw [← List.map_id ms]
      exact List.map_congr_left fun x _ => by simp
    rw [e2] at h2
    exact h2
theorem le_back {ks : List Nat} (h : (ks.map fun (m : Nat) => (m : Int)).Pairwise (· ≤ ·)) : ks.Pairwise (· ≤ ·) := by
  rw [List.pairwise_map] at h
  exact h.imp fun z => by omega
theorem lt_of_le {ks : List Nat} (h : ks.Pairwise (· ≤ ·)) (hn : ks.Nodup) : Asc ks := (h.and hn).imp fun ⟨a, b⟩ => by omega
theorem inV_ints (x : Int) : ∀ ns : List Int, inV (V.int x) (ns.map V.int) = decide (x ∈ ns)
  | [] => rfl
  | y :: r => by
    show ((y == x) || inV (V.int x) (r.map V.int)) = _
    rw [inV_ints x r]
    by_cases h : y = x
    · subst h
      rw [beq_self_eq_true, decide_eq_true List.mem_cons_self]
      rfl
    · rw [show (y == x) = false from beq_eq_false_iff_ne.mpr h, Bool.false_or]
      by_cases g : x ∈ r
      · rw [decide_eq_true g, decide_eq_true (List.mem_cons_of_mem _ g)]
      · rw [decide_eq_false g, decide_eq_false fun z => ?_]
        rcases List.mem_cons.mp z with z | z
        · exact h z.symm
        · exact g z
theorem flat_ints : ∀ ns : List Int, (ns.map V.int).all flatV = true
  | [] => rfl
  | _ :: r => flat_ints r
theorem setV_flat (ms : List Nat) : (setV ms).all flatV = true := by
  rw [setV_ints]
  exact flat_ints _
theorem inV_setV (x : Nat) (ms : List Nat) : inV (.int (x : Int)) (setV ms) = decide (x ∈ ms) := by
  rw [setV_ints, inV_ints]
  refine decide_eq_decide.mpr ⟨fun h => ?_, fun h => List.mem_map.mpr ⟨x, h, rfl⟩⟩
  obtain ⟨y, hy, e⟩ := List.mem_map.mp h
  have : y = x := by omega
  rw [← this]
  exact hy
theorem setV_mem {ms : List Nat} {v : V} (h : v ∈ setV ms) : ∃ m, m ∈ ms ∧ v = .int (m : Int) := by
  obtain ⟨m, hm, e⟩ := List.mem_map.mp h
  exact ⟨m, hm, e.symm⟩
theorem setV_get {ms : List Nat} {i : Nat} {v : V} (h : (setV ms)[i]? = some v) : ∃ m, ms[i]? = some m ∧ v = .int (m : Int) := by
  unfold setV at h
  rw [List.getElem?_map] at h
  cases e : ms[i]? with
  | none =>
    rw [e] at h
    cases h
  | some m =>
    rw [e] at h
    exact ⟨m, rfl, (Option.some.inj h).symm⟩
theorem range'_snoc (n : Nat) : List.range' 0 (n + 1) = List.range' 0 n ++ [n] := by
  rw [← List.range_eq_range', ← List.range_eq_range', List.range_succ]
theorem fr_step (f : Nat → Bool) (n : Nat) : setV ((List.range' 0 (n + 1)).filter f) = setV ((List.range' 0 n).filter f) ++ if f n = true then [V.int (n : Int)] else [] := by
  rw [range'_snoc, List.filter_append, setV_app]
  congr 1
  cases h : f n with
  | true => rw [List.filter_cons_of_pos h]; rfl
  | false => rw [List.filter_cons_of_neg (by rw [h]; decide)]; rfl
/-- what an error of the class CN with the field f leaves behind -/
def Raised (f : Str) (CN : Addr) (v : V) (H : Hp) (E : XK) : Prop := ∀ H' d, Same H H' → H' d = some (.xd [(f, v)]) → H d = none → E (.ref CN) (some d) H'
theorem Raised.on {f : Str} {CN : Addr} {v : V} {H H1 : Hp} {E : XK} (s : Same H H1) (h : Raised f CN v H E) : Raised f CN v H1 E := fun H' d s2 e n => h H' d (s.trans s2) e (s.free n)
theorem cut_set (ms : List Nat) (lo hi : Option Int) : ∃ ks : List Nat, cutV (setV ms) lo hi = setV ks ∧ (∀ x ∈ ks, x ∈ ms) ∧ ks.length ≤ ms.length ∧ ks.Sublist ms := by
  unfold cutV setV
  rw [← List.map_drop, ← List.map_take]
  refine ⟨_, rfl, fun x hx => List.mem_of_mem_drop (List.mem_of_mem_take hx), ?_, (List.take_sublist _ _).trans (List.drop_sublist _ _)⟩
  rw [List.length_take, List.length_drop]
  omega
def natOf : V → Nat
  | .int i => i.toNat
  | _ => 0
theorem perm_setV {ys : List V} {ms : List Nat} (h : ys.Perm (setV ms)) : ∃ ks : List Nat, ys = setV ks ∧ ks.Perm ms := by
  have e : ∀ y ∈ ys, V.int ((natOf y : Nat) : Int) = y := fun y hy => by
    obtain ⟨m, _, rfl⟩ := setV_mem (h.mem_iff.mp hy)
    show V.int (((m : Int).toNat : Nat) : Int) = _
    rw [Int.toNat_natCast]
  refine ⟨ys.map natOf, ?_, ?_⟩
  · unfold setV
    rw [List.map_map]
    conv => lhs; rw [← List.map_id ys]
    exact List.map_congr_left fun y hy => (e y hy).symm
  · have h2 := h.map natOf
    unfold setV at h2
    rw [List.map_map] at h2
    have e2 : (ms.map (natOf ∘ fun (m : Nat) => V.int (m : Int))) = ms := by
      conv => rhs; rw [← List.map_id ms]
      refine List.map_congr_left fun x _ => ?_
      show (x : Int).toNat = x
      rw [Int.toNat_natCast]
    rw [e2] at h2
    exact h2
theorem dp_set {K : PySem.W.Frag} {H : Hp} : ∀ ms : List Nat, DpAll K H (setV ms) (natD ms)
  | [] => .nil
  | m :: r => .cons (.int (m : Int)) (dp_set r)
theorem but_free {p q : Addr} {H H' : Hp} (s : But p H H') (h : H' q = none) (n : q ≠ p) : H q = none := by
  cases e : H q with
  | none => rfl
  | some o =>
    rw [s _ _ n e] at h
    cases h
theorem but_new {p q : Addr} {H H1 : Hp} {o : HO} (s : But p H H1) (h : H q = none) : But p H (L2.upd H1 q o) := fun b x n e => by
  rw [upd_ne (ne_of_none e h)]
  exact s b x n e
theorem erase_perm {α : Type} : ∀ (l : List α) (k : Nat) (x : α), l[k]? = some x → (x :: l.eraseIdx k).Perm l
  | [], _, _, h => by cases h
  | a :: r, 0, x, h => by
    obtain rfl : a = x := Option.some.inj h
    exact List.Perm.refl _
  | a :: r, k + 1, x, h => (List.Perm.swap a x _).trans ((erase_perm r k x h).cons a)
theorem same_hide {p : Addr} {H H' : Hp} (s : Same H H') (n : H p = none) : Same H (hide p H') := fun b o e => by
  rw [hide_ne (ne_of_none e n)]
  exact s b o e
theorem cut_take (fl : List Nat) (w : Nat) : cutV (setV fl) none (some (w : Int)) = setV (fl.take w) := by
  unfold cutV
  have e0 : HT.sIx (setV fl).length 0 none = 0 := rfl
  have e1 : HT.sIx (setV fl).length (setV fl).length (some (w : Int)) = min w fl.length := by
    rw [setV_len]
    exact HT.sIx_nat _ _ _
  rw [e0, e1, List.drop_zero, Nat.sub_zero]
  unfold setV
  rw [← List.map_take]
  congr 1
  rw [List.take_eq_take_iff]
  omega
theorem SqT_updL {K : PySem.W.Frag} {H : Hp} {a D : Addr} {xs ys : List V} {o : HO} (h : SqT K H a xs) (hD : H D = some (.lst ys)) : SqT K (upd H D o) a xs := by
  rcases h with (h | ⟨o, h⟩) | h
  · exact .inl (.inl (by rw [upd_ne (fun c => by rw [c, hD] at h; cases h)]; exact h))
  · exact .inl (.inr ⟨o, by rw [upd_ne (fun c => by rw [c, hD] at h; cases h)]; exact h⟩)
  · exact .inr h
/-- a pair of a tuple of servers and a number -/
def PairAt (H0 H : Hp) (u : Addr) (ms : List Nat) (r : Nat) : Prop := H0 u = none ∧ ∃ t, H0 t = none ∧ H u = some (.tup [.ref t, .int (r : Int)]) ∧ H t = some (.tup (setV ms))
theorem PairAt.back {H0 H1 H : Hp} {u : Addr} {ms : List Nat} {r : Nat} (s : Same H0 H1) (h : PairAt H1 H u ms r) : PairAt H0 H u ms r := by
  obtain ⟨a, t, b, c⟩ := h
  exact ⟨s.free a, t, s.free b, c⟩
theorem erase_setV : ∀ (l : List Nat) (k : Nat), (setV l).eraseIdx k = setV (l.eraseIdx k)
  | [], _ => rfl
  | _ :: _, 0 => rfl
  | a :: r, k + 1 => congrArg (V.int (a : Int) :: ·) (erase_setV r k)
/-! ### level_parts -/
def spParts : Sp := fun vs H Q _ => ∃ n d : Nat, vs = [.int n, .int d] ∧ n ≤ 60 ∧ d ≤ n ∧ ∀ p, H p = none → Q (.ref p) (upd H p (.lst (setV (partsV n d))))
theorem rg_parts {n d : Nat} (h : d ≤ n) : rgC (n : Int) (-1) d = setV (partsV n d) := by
  unfold rgC setV partsV
  rw [List.map_map]
  refine List.map_congr_left fun i hi => ?_
  have := List.mem_range.mp hi
  show V.int ((n : Int) + ((i : Nat) : Int) * (-1)) = V.int ((n - i : Nat) : Int)
  congr 1
  omega
section
variable {P : Program} {w : World} {K : PySem.W.Frag} {mg : Str → Option Value} {base : Heap}
theorem ok_parts (T : Txt K mg) {j : Nat} : FnOk P w K mg base CX0 (j + 1) T.fParts T.fdParts ["n", "depth"] spParts := by
  refine T.FParts.ok scParts (fun vs H Q E h => ?_) (fun cdv A outer s H vs Q E hr h => ?_)
  · obtain ⟨n, d, rfl, _⟩ := h
    rfl
  · obtain ⟨n, d, rfl, hn, hd, q⟩ := h
    refine ⟨_, pss_one (ps_ret (pe_listRgC rfl (by rfl) T.n_list (by rfl) T.n_range (pa_cons (pv 0) (pa_cons (pe_op op_sub (pv 0) (pv 1)) (pa_cons (pe_un un_neg pe_int) pa_nil))))), ?_⟩
    have e : ((n : Int) - ((n : Int) - (d : Int))).toNat = d := by omega
    have rc : RgC (n : Int) ((n : Int) - (d : Int)) (-1) d := by
      have := RgC.neg (i := (n : Int)) (j := (n : Int) - (d : Int)) (by omega) (by omega) (by omega) (by omega)
      rw [e] at this
      exact this
    refine ⟨_, rfl, _, rfl, _, rfl, _, _, rfl, rfl, _, rfl, (n : Int), (n : Int) - (d : Int), -1, d, rfl, rc, by omega, fun p np => ?_⟩
    rw [rg_parts hd]
    exact q p np
end
/-! ### counts and numbers of any value -/
theorem TyX.same {K : PySem.W.Frag} {H H' : Hp} {v : V} {t : Value} (e : Same H H') (h : TyX K H v t) : TyX K H' v t := by
  cases h with
  | base h =>
    cases h with
    | non => exact .base .non
    | bl x => exact .base (.bl x)
    | int i => exact .base (.int i)
    | str x => exact .base (.str x)
    | flt x => exact .base (.flt x)
    | lst z => exact .base (.lst (e _ _ z))
    | frz z => exact .base (.frz (e _ _ z))
    | tup z => exact .base (.tup (e _ _ z))
    | dK z => exact .base (.dK (e _ _ z))
    | dT z => exact .base (.dT (e _ _ z))
    | ins z a1 a2 a3 a4 a5 => exact .base (.ins (e _ _ z) a1 a2 a3 a4 a5)
  | byt b => exact .byt b
  | set z => exact .set (e _ _ z)
  | kList a b => exact .kList a b
  | kTuple a b => exact .kTuple a b
  | kDict a b => exact .kDict a b
  | fTuple z => exact .fTuple (e _ _ z)
  | fDict z => exact .fDict (e _ _ z)
def CountV (K : PySem.W.Frag) (H : Hp) (v : V) (o : Option Int) : Prop := (∃ c, o = some c ∧ v = .int c) ∨ (o = none ∧ ∃ t, t ∈ tyNames ∧ (t == "int") = false ∧ TyX K H v (.type t))
theorem CountV.ty {K : PySem.W.Frag} {H : Hp} {v : V} {o : Option Int} (h : CountV K H v o) : ∃ t, t ∈ tyNames ∧ (t == "int") = o.isSome ∧ TyX K H v (.type t) := by
  rcases h with ⟨c, rfl, rfl⟩ | ⟨rfl, t, h1, h2, h3⟩
  · exact ⟨"int", by decide, rfl, .base (.int c)⟩
  · exact ⟨t, h1, h2, h3⟩
def possB (L : Nat) : Option Int → Bool
  | some c => decide (0 < c) && decide (c % (L : Int) = 0)
  | none => false
theorem possB_some (L : Nat) (c : Int) : possB L (some c) = (decide (0 < c) && decide (c % (L : Int) = 0)) := rfl
theorem CountV.same {K : PySem.W.Frag} {H H' : Hp} {v : V} {o : Option Int} (e : Same H H') (h : CountV K H v o) : CountV K H' v o := by
  rcases h with h | ⟨h1, t, h2, h3, h4⟩
  · exact .inl h
  · exact .inr ⟨h1, t, h2, h3, TyX.same e h4⟩
theorem decV (x y : Int) : decide (V.int x = V.int y) = decide (x = y) := by
  by_cases h : x = y
  · rw [decide_eq_true h, decide_eq_true (congrArg V.int h)]
  · rw [decide_eq_false h, decide_eq_false fun z => h (V.int.inj z)]
theorem poss_no {n d c i : Nat} (hn : n ≤ 60) (h1 : 1 ≤ n) (hd : d ≤ n) (hi : i < d) (h : ¬ (n - i) ∣ c) : possB (leastL n d) (some (c : Int)) = false := by
  rw [possB_some, decide_eq_false (p := (c : Int) % (leastL n d : Int) = 0), Bool.and_false]
  intro z
  have z2 : c % leastL n d = 0 := by
    have : ((c % leastL n d : Nat) : Int) = 0 := by
      rw [Int.natCast_emod]
      exact z
    omega
  exact h ((least_parts h1 hn hd c).mp (Nat.dvd_of_mod_eq_zero z2) i hi)
theorem poss_yes {n d c : Nat} (hn : n ≤ 60) (h1 : 1 ≤ n) (hd : d ≤ n) (h0 : 0 < c) (h : ∀ i, i < d → (n - i) ∣ c) : possB (leastL n d) (some (c : Int)) = true := by
  rw [possB_some, decide_eq_true (p := 0 < (c : Int)) (by omega), Bool.true_and]
  refine decide_eq_true ?_
  rw [← Int.natCast_emod, Nat.mod_eq_zero_of_dvd ((least_parts h1 hn hd c).mpr h)]
  rfl
theorem poss_std {n d : Nat} {o : Option Int} (hn : n ≤ 60) (h1 : 1 ≤ n) (hd : d ≤ n) (h : possB (leastL n d) o = true) : ∃ c : Nat, o = some (c : Int) ∧ Std n d c := by
  cases o with
  | none => cases h
  | some x =>
    rw [possB_some, Bool.and_eq_true] at h
    have a := of_decide_eq_true h.1
    have b := of_decide_eq_true h.2
    obtain ⟨c, rfl⟩ := Int.eq_ofNat_of_zero_le (Int.le_of_lt a)
    refine ⟨c, rfl, hn, h1, hd, by omega, ?_⟩
    have b2 : ((c % leastL n d : Nat) : Int) = 0 := by
      rw [Int.natCast_emod]
      exact b
    exact Nat.dvd_of_mod_eq_zero (by omega)
theorem std_poss {n d c : Nat} (h : Std n d c) : possB (leastL n d) (some (c : Int)) = true := by
  have h0 := h.c0
  obtain ⟨q, hq⟩ := h.dv
  rw [possB_some, decide_eq_true (show (0 : Int) < (c : Int) by omega), Bool.true_and]
  refine decide_eq_true ?_
  rw [← Int.natCast_emod, hq, Nat.mul_mod_right]
  rfl
def numB (m : Nat) : Option Int → Bool
  | some c => decide (0 ≤ c) && decide (c < (m : Int))
  | none => false
theorem numB_some (m : Nat) (c : Int) : numB m (some c) = (decide (0 ≤ c) && decide (c < (m : Int))) := rfl
theorem num_lt {c : Nat} {m : Option Int} (h : numB c m = true) : ∃ k : Nat, m = some (k : Int) ∧ k < c := by
  cases m with
  | none => cases h
  | some x =>
    rw [numB_some, Bool.and_eq_true] at h
    have a := of_decide_eq_true h.1
    have b := of_decide_eq_true h.2
    obtain ⟨k, rfl⟩ := Int.eq_ofNat_of_zero_le a
    exact ⟨k, rfl, by omega⟩
theorem CountV.isInt {K : PySem.W.Frag} {H : Hp} {v : V} {c : Int} (h : CountV K H v (some c)) : v = .int c := by
  rcases h with ⟨x, e, rfl⟩ | ⟨e, _⟩
  · rw [← Option.some.inj e]
  · cases e
/-! ### is_possible -/
def spPoss (K : PySem.W.Frag) : Sp := fun vs H Q _ => ∃ (n d : Nat) (v : V) (o : Option Int), vs = [.int n, .int d, v] ∧ n ≤ 60 ∧ 1 ≤ n ∧ d ≤ n ∧ CountV K H v o ∧ ∀ H', Same H H' → Q (.bl (possB (leastL n d) o)) H'
section
variable {P : Program} {w : World} {K : PySem.W.Frag} {mg : Str → Option Value} {base : Heap}
theorem ok_poss (T : Txt K mg) {j : Nat} : FnOk P w K mg base CX0 (j + 4) T.fPoss T.fdPoss ["n", "depth", "count"] (spPoss K) := by
  refine T.FPoss.ok scPoss (fun vs H Q E h => ?_) (fun cdv A outer s H vs Q E hr h => ?_)
  · obtain ⟨n, d, v, o, rfl, _⟩ := h
    rfl
  · obtain ⟨n, d, v, o, rfl, hn, h1, hd, hv, q⟩ := h
    refine ⟨_, pss_cons (ps_if (PW.pt (pw_or (pt_not (pt_val (pe_call (ok_plain T) hr (by rfl) T.gPlain T.FPlain.kp T.bPlain .nil pass0 (pa_cons (pv 2) pa_nil)))) (pw_or (pt_cmpR op_le (pv 2) pe_int (nomark _)) (pw_or1 (pt_cmpR op_gt (pv 1) (pv 0) (nomark _)))))) (pss_one (ps_ret pe_bl)) pss_nil) (pss_cons (ps_for PassesOwn.never rfl (pi_list (pe_call (ok_parts T) hr (by rfl) T.gParts T.FParts.kp T.bParts .nil pass0 (pa_cons (pv 0) (pa_cons (pv 1) pa_nil)))) (pg_name (i := 3) scPoss.nd rfl (.inl rfl)) (pss_one (ps_if (pt_cmpR op_ne (pe_op op_mod (pv 2) (pv 3)) pe_int (nomark _)) (pss_one (ps_ret pe_bl)) pss_nil))) (pss_one (ps_ret pe_bl))), ?_⟩
    obtain ⟨t, ht, e, ty⟩ := hv.ty
    refine ⟨v, rfl, v, t, rfl, ty, ht, _, rfl, ?_⟩
    rw [e]
    rcases hv with ⟨x, rfl, rfl⟩ | ⟨rfl, _⟩
    · refine iteF ?_
      refine ⟨_, rfl, _, _, rfl, rfl, _, rfl, ite2 (fun h2 => ?_) (fun h2 => ?_)⟩
      · have h3 : x ≤ 0 := of_decide_eq_true h2
        have e2 : possB (leastL n d) (some x) = false := by
          rw [possB_some, decide_eq_false (show ¬ 0 < x by omega)]
          rfl
        rw [e2] at q
        exact q _ (Same.refl _)
      · have h3 : ¬ x ≤ 0 := fun z => h2 (decide_eq_true z)
        refine ⟨_, rfl, _, rfl, _, _, rfl, rfl, _, rfl, ite2 (fun z => absurd (of_decide_eq_true z : (n : Int) < (d : Int)) (by omega)) (fun _ => ?_)⟩
        obtain ⟨c, rfl⟩ := Int.eq_ofNat_of_zero_le (show 0 ≤ x by omega)
        refine ⟨_, rfl, _, rfl, n, d, rfl, hn, hd, fun p np => ?_⟩
        have s0 := same_new (o := .lst (setV (partsV n d))) np
        refine ⟨p, rfl, ⟨_, SqL.of upd_same⟩, for_list (K := K) (a := p) (xs := setV (partsV n d)) (fun i σ H2 => (∃ u, σ = [some (.int n), some (.int d), some (.int c), u]) ∧ H2 = upd H p (.lst (setV (partsV n d))) ∧ ∀ k, k < i → (n - k) ∣ c) ⟨⟨none, rfl⟩, rfl, fun k hk => absurd hk (Nat.not_lt_zero k)⟩ ?_ ?_ ?_⟩
        · rintro i σ H2 _ ⟨⟨u, rfl⟩, rfl, _⟩
          exact SqL.of upd_same
        · rintro i z σ H2 hz ⟨⟨u, rfl⟩, rfl, ih⟩
          obtain ⟨m, hm, rfl⟩ := setV_get hz
          have hid : i < d := by
            have := (List.getElem?_eq_some_iff.mp hm).1
            rw [parts_len] at this
            exact this
          obtain rfl : n - i = m := Option.some.inj ((parts_at hid).symm.trans hm)
          refine ⟨_, rfl, _, rfl, _, _, rfl, rfl, (by omega : (0 : Int) < ((n - i : Nat) : Int)), rfl, _, rfl, ?_⟩
          dsimp only
          rw [decV]
          refine ite2 (fun h5 => ?_) (fun h5 => ?_)
          · have h6 : ¬ (c : Int) % ((n - i : Nat) : Int) = 0 := by
              intro z
              rw [decide_eq_true z] at h5
              cases h5
            have h7 : ¬ (n - i) ∣ c := fun z => h6 (by rw [← Int.natCast_emod, Nat.mod_eq_zero_of_dvd z]; rfl)
            rw [poss_no hn h1 hd hid h7] at q
            exact q _ s0
          · have h6 : (c : Int) % ((n - i : Nat) : Int) = 0 := Classical.byContradiction fun z => h5 (by rw [decide_eq_false z]; rfl)
            refine ⟨⟨_, rfl⟩, rfl, fun k hk => ?_⟩
            by_cases ek : k = i
            · subst ek
              have : ((c % (n - k) : Nat) : Int) = 0 := by
                rw [Int.natCast_emod]
                exact h6
              exact Nat.dvd_of_mod_eq_zero (by omega)
            · exact ih k (by omega)
        · rintro σ H2 ⟨⟨u, rfl⟩, rfl, ih⟩
          rw [setV_len, parts_len] at ih
          rw [poss_yes hn h1 hd (by omega) ih] at q
          exact q _ s0
    · exact iteT (q _ (Same.refl _))
end
/-! ### reach_of -/
def spReachOf : Sp := fun vs H Q _ => ∃ n f k : Nat, vs = [.int n, .int f, .int k] ∧ Q (.int (min n (f + k) : Nat)) H
section
variable {P : Program} {w : World} {K : PySem.W.Frag} {mg : Str → Option Value} {base : Heap}
theorem ok_reachof (T : Txt K mg) {j : Nat} : FnOk P w K mg base CX0 (j + 1) T.fReachOf T.fdReachOf ["n", "failures", "factor"] spReachOf := by
  refine T.FReachOf.ok scReachOf (fun vs H Q E h => ?_) (fun cdv A outer s H vs Q E hr h => ?_)
  · obtain ⟨n, f, k, rfl, _⟩ := h
    rfl
  · obtain ⟨n, f, k, rfl, q⟩ := h
    refine ⟨_, pss_one (ps_ret (pe_callB (call_min2 rfl) (by rfl) T.n_min (by decide +kernel) (pa_cons (pv 0) (pa_cons (pe_op op_add (pv 1) (pv 2)) pa_nil)))), ?_⟩
    refine ⟨_, rfl, _, rfl, _, rfl, _, _, rfl, rfl, _, _, rfl, ?_⟩
    have e : (if ((f : Int) + (k : Int)) < (n : Int) then ((f : Int) + (k : Int)) else (n : Int)) = ((min n (f + k) : Nat) : Int) := by
      by_cases c : (f : Int) + (k : Int) < (n : Int)
      · rw [if_pos c]
        omega
      · rw [if_neg c]
        omega
    dsimp only
    rw [e]
    exact q
end
/-! ### NotPossible's __init__ -/
section
variable {P : Program} {w : World} {K : PySem.W.Frag} {mg : Str → Option Value} {base : Heap}
theorem ok_notp (T : Txt K mg) {j : Nat} : FnOk P w K mg base CX0 (j + 1) T.fNotP T.fdNotP ["self", "count"] (spErr K T.cNotP "count") := by
  refine T.FNotP.ok scNotP (fun vs H Q E h => ?_) (fun cdv A outer s H vs Q E hr h => ?_)
  · obtain ⟨a, v, rfl, _⟩ := h
    rfl
  · obtain ⟨a, v, rfl, ha, q⟩ := h
    refine ⟨_, pss_cons (ps_expr (pe_baseInit (by rfl) T.gcBase T.btBase.sp T.btBase.ty T.btBase.rd T.btBase.fc (pa_cons (pv 0) (pa_cons pe_str pa_nil)))) (pss_one (ps_ost (pv 0) (pv 1))), ?_⟩
    refine ⟨.ref a, rfl, a, T.cNotP, _, rfl, (by show 1 ≤ 1000; decide), T.eNotP.ox, ha, ?_⟩
    refine ⟨v, rfl, .ref a, rfl, a, T.cNotP, rfl, T.eNotP.ox, T.eNotP.no, .inl ⟨ha, fun dx nd ne => q dx nd ne⟩⟩
end
/-! ### check_possible -/
def spChkP (K : PySem.W.Frag) (CN : Addr) : Sp := fun vs H Q E => ∃ (n d : Nat) (v : V) (o : Option Int), vs = [.int n, .int d, v] ∧ n ≤ 60 ∧ 1 ≤ n ∧ d ≤ n ∧ CountV K H v o ∧
  (possB (leastL n d) o = true → ∀ H', Same H H' → Q .non H') ∧ (possB (leastL n d) o = false → Raised "count" CN v H E)
section
variable {P : Program} {w : World} {K : PySem.W.Frag} {mg : Str → Option Value} {base : Heap}
theorem ok_chkp (T : Txt K mg) {j : Nat} : FnOk P w K mg base (L2.CX P w) (j + 5) T.fChkP T.fdChkP ["n", "depth", "count"] (spChkP K T.cNotP) := by
  refine T.FChkP.okX scChkP (fun vs H Q E h => ?_) (fun cdv A outer s H vs Q E hr h => ?_)
  · obtain ⟨n, d, v, o, rfl, _⟩ := h
    rfl
  · obtain ⟨n, d, v, o, rfl, hn, h1, hd, hv, q1, q2⟩ := h
    refine ⟨_, pss_one (ps_if (pt_not (pt_val (pe_call (ok_poss T) hr (by rfl) T.gPoss T.FPoss.kp T.bPoss .nil pass0 (pa_cons (pv 0) (pa_cons (pv 1) (pa_cons (pv 2) pa_nil)))))) (pss_one (ps_raise rfl (takes_of rfl rfl rfl rfl) (pmk_oex T.eNotP.ox T.eNotP.iC T.eNotP.tI (ok_notp T) hr T.bNotP .nil pass0 (by rfl) T.gcNotP (pa_cons (pv 2) pa_nil)))) pss_nil), ?_⟩
    refine ⟨_, rfl, _, rfl, v, rfl, n, d, v, o, rfl, hn, h1, hd, hv, fun H1 s1 => ⟨_, rfl, ?_⟩⟩
    cases e : possB (leastL n d) o with
    | true => exact iteF (q1 e _ s1)
    | false =>
      refine iteT ⟨v, rfl, (by show 1 ≤ 1000; decide), fun a na => ⟨a, v, rfl, upd_same, fun dx nd ne => ?_⟩⟩
      obtain ⟨e1, e2, e3, e4, e5⟩ := err_end (f := "count") (v := v) na nd ne
      exact ⟨rfl, dx, _, e1, e2, e3, q2 e _ dx (s1.trans e4) e5 (s1.free e3)⟩
end
/-! ### edges as keys: a set and the next server -/
abbrev Edge := List Nat × Nat
def nkE (e : Edge) : NestedKey := .tup [.tup (e.1.map fun (m : Nat) => .num (m : Int)), .num (e.2 : Int)]
theorem nums_inj {a b : List Nat} (h : (a.map fun (m : Nat) => NestedKey.num (m : Int)) = b.map fun (m : Nat) => NestedKey.num (m : Int)) : a = b := by
  induction a generalizing b with
  | nil =>
    cases b with
    | nil => rfl
    | cons y s => cases h
  | cons x r ih =>
    cases b with
    | nil => cases h
    | cons y s =>
      rw [List.map_cons, List.map_cons] at h
      injection h with h1 h2
      injection h1 with h1
      rw [ih h2, show x = y by omega]
theorem nkE_inj (a b : Edge) (h : nkE a = nkE b) : a = b := by
  unfold nkE at h
  injection h with h
  injection h with h1 h2
  injection h1 with h1
  injection h2 with h2
  injection h2 with h2
  exact Prod.ext (nums_inj h1) (by omega)
theorem nums_all {K : PySem.W.Frag} {H : Hp} : ∀ ms : List Nat, NkAll K H (ms.map fun (m : Nat) => NestedKey.num (m : Int)) (setV ms)
  | [] => .nil
  | m :: r => .cons (.num _) (nums_all r)
theorem nkE_at {K : PySem.W.Frag} {H : Hp} {u t : Addr} {e : Edge} (h1 : SqT K H u [.ref t, .int (e.2 : Int)]) (h2 : SqT K H t (setV e.1)) : NkAt K H (nkE e) (.ref u) := .tup h1 (.cons (.tup h2 (nums_all e.1)) (.cons (.num _) .nil))
theorem nums_depth : ∀ l : List Nat, NestedKey.depthAll (l.map fun (m : Nat) => NestedKey.num (m : Int)) = 0
  | [] => rfl
  | a :: r => by
    rw [List.map_cons]
    simp only [NestedKey.depthAll, NestedKey.depth]
    rw [nums_depth r]
    rfl
theorem nkE_depth (e : Edge) : (nkE e).depth ≤ 8 := by
  unfold nkE
  simp only [NestedKey.depth, NestedKey.depthAll]
  rw [nums_depth]
  decide
theorem nums_datas : ∀ l : List Nat, NestedKey.datas (l.map fun (m : Nat) => NestedKey.num (m : Int)) = natD l
  | [] => rfl
  | a :: r => by
    rw [List.map_cons]
    simp only [NestedKey.datas, NestedKey.data]
    rw [nums_datas r]
    rfl
def edgeD (e : Edge) : PyData := .tuple [.tuple (natD e.1), .int (e.2 : Int)]
theorem nkE_data (e : Edge) : (nkE e).data = edgeD e := by
  unfold nkE edgeD
  simp only [NestedKey.data, NestedKey.datas]
  rw [nums_datas]
theorem natD_int (ms : List Nat) : natD ms = (ms.map fun (m : Nat) => (m : Int)).map PyData.int := by
  unfold natD
  rw [List.map_map]
  rfl
theorem alike_edge (a b : Edge) : PySem.W.alike (edgeD a) (edgeD b) = true := by
  unfold edgeD
  rw [natD_int, natD_int]
  simp only [PySem.W.alike, PySem.W.alikeAll, PySem.W.alike_ints]
  rfl
theorem depth_edge (e : Edge) : (edgeD e).depth ≤ 20 := by
  unfold edgeD
  rw [natD_int]
  simp only [PyData.depth, PyData.depthAll, PySem.W.depth_ints]
  decide
/-- the edges of the rows at a level -/
def edgeL (s : Nat) (r : List Nat) : Edge := (srt (r.take s), r.getD s 0)
def edgesL (s : Nat) (rows : List (List Nat)) : List Edge := (rows.filter fun r => decide (s < r.length)).map (edgeL s)
theorem edges_all {s : Nat} {rows : List (List Nat)} (h : ∀ r ∈ rows, s < r.length) : edgesL s rows = rows.map (edgeL s) := by
  unfold edgesL
  rw [List.filter_eq_self.mpr fun r hr => decide_eq_true (h r hr)]
theorem edges_snoc (s : Nat) (rows : List (List Nat)) (r : List Nat) : edgesL s (rows ++ [r]) = edgesL s rows ++ if s < r.length then [edgeL s r] else [] := by
  unfold edgesL
  rw [List.filter_append, List.map_append]
  congr 1
  by_cases c : s < r.length
  · rw [if_pos c, List.filter_cons_of_pos (by simpa using c)]
    rfl
  · rw [if_neg c, List.filter_cons_of_neg (by simpa using c)]
    rfl
/-- the dict of the edges' numbers -/
abbrev tallyE (es : List Edge) : List (NestedKey × V) := tallyN (es.map nkE)
theorem keyE_mem {es : List Edge} {k : NestedKey} (h : k ∈ (tallyE es).map (·.1)) : ∃ e ∈ es, nkE e = k := List.mem_map.mp ((tally_keys _ k).mp h)
theorem tallyE_alike (es : List Edge) : PySem.W.AllAlike (((tallyE es).map (·.1)).map NestedKey.data) := by
  intro d hd d' hd'
  obtain ⟨k, hk, rfl⟩ := List.mem_map.mp hd
  obtain ⟨k', hk', rfl⟩ := List.mem_map.mp hd'
  obtain ⟨e, _, rfl⟩ := keyE_mem hk
  obtain ⟨e', _, rfl⟩ := keyE_mem hk'
  rw [nkE_data, nkE_data]
  exact alike_edge e e'
theorem tallyE_sortable (es : List Edge) : PySem.W.Sortable (((tallyE es).map (·.1)).map NestedKey.data) := .inl fun d hd => by
  obtain ⟨k, hk, rfl⟩ := List.mem_map.mp hd
  obtain ⟨e, _, rfl⟩ := keyE_mem hk
  rw [nkE_data]
  exact ⟨_, _, rfl⟩
theorem tallyE_depth (es : List Edge) : ∀ k ∈ (tallyE es).map (·.1), k.data.depth ≤ 20 := fun k hk => by
  obtain ⟨e, _, rfl⟩ := keyE_mem hk
  rw [nkE_data]
  exact depth_edge e
/-- the edges that occur, in order -/
def sortE (es : List Edge) : List NestedKey := ((tallyE es).map (·.1)).mergeSort nLe
theorem sortE_mem {es : List Edge} {k : NestedKey} (h : k ∈ sortE es) : ∃ e ∈ es, nkE e = k := keyE_mem ((List.mergeSort_perm _ _).mem_iff.mp h)
theorem sortE_len (es : List Edge) : (sortE es).length ≤ es.length := by
  unfold sortE
  rw [List.length_mergeSort, List.length_map]
  have := tally_lenG (es.map nkE)
  rw [List.length_map] at this
  exact this
/-- the level numbers as data -/
def levD (es : List Edge) : PyData := .tuple ((sortE es).map fun k => .tuple [k.data, .int ((es.map nkE).count k : Nat)])
/-- a tuple of (edge, many) -/
def LevAt (K : PySem.W.Frag) (H : Hp) (t : Addr) (es : List Edge) : Prop := ∃ us : List V, H t = some (.tup us) ∧ PySem.Paired (fun v k => ∃ u b, v = V.ref u ∧ SqT K H u [.ref b, .int ((es.map nkE).count k : Nat)] ∧ NkAt K H k (.ref b)) us (sortE es)
theorem LevAt.same {K : PySem.W.Frag} {H H' : Hp} {t : Addr} {es : List Edge} (s : Same H H') (h : LevAt K H t es) : LevAt K H' t es := by
  obtain ⟨us, h1, h2⟩ := h
  exact ⟨us, s _ _ h1, PySem.Paired.mono (fun v k ⟨u, b, e, z1, z2⟩ => ⟨u, b, e, Same.seqT s z1, z2.same s⟩) h2⟩
theorem LevAt.dp {K : PySem.W.Frag} {H : Hp} {t : Addr} {es : List Edge} (h : LevAt K H t es) : Dp K H (.ref t) (levD es) := by
  obtain ⟨us, h1, h2⟩ := h
  refine .tup (SqT.of h1) ?_
  clear h1
  generalize sortE es = ks at h2
  induction h2 with
  | nil => exact .nil
  | cons a _ ih =>
    obtain ⟨u, b, rfl, z1, z2⟩ := a
    exact .cons (.tup z1 (.cons (nk_dp _ _ z2) (.cons (.int _) .nil))) ih
theorem sh_levs {es : List Edge} {sz : Nat} (hc : es.length ≤ 1000) : ∀ {ks : List NestedKey}, (∀ k ∈ ks, ∃ e : Edge, nkE e = k ∧ e.1.length ≤ sz ∧ (∀ x ∈ e.1, x < 60) ∧ e.2 < 60) → ShAll 3 ((7 * sz + 21) * ks.length) (ks.map fun k => .tuple [k.data, .int ((es.map nkE).count k : Nat)])
  | [], _ => ShAll.nil.mono (by decide) (Nat.zero_le _)
  | k :: ks, h => by
    obtain ⟨e, rfl, h1, h2, h3⟩ := h k List.mem_cons_self
    have a := Sh.tup (sh_nat (b := 6) (by decide) (by decide) (ms := e.1) fun x hx => by have := h2 x hx; omega)
    have b : Sh 0 6 (.int (e.2 : Int)) := Sh.int (by decide) (by decide) (by rw [Int.natAbs_natCast]; omega)
    have c := Sh.tup (ShAll.cons a (ShAll.cons (b.mono (dp' := 1) (by decide) (Nat.le_refl _)) (ShAll.nil.mono (dp' := 1) (wt' := 0) (by decide) (by decide))))
    have hcn := List.count_le_length (a := nkE e) (l := es.map nkE)
    rw [List.length_map] at hcn
    have d : Sh 0 10 (.int ((es.map nkE).count (nkE e) : Nat)) := Sh.int (by decide) (by decide) (by rw [Int.natAbs_natCast]; omega)
    have f := Sh.tup (ShAll.cons c (ShAll.cons (d.mono (dp' := 2) (by decide) (Nat.le_refl _)) (ShAll.nil.mono (dp' := 2) (wt' := 0) (by decide) (by decide))))
    have g := ShAll.cons f (sh_levs hc fun y hy => h y (List.mem_cons_of_mem _ hy))
    rw [List.map_cons, nkE_data]
    refine g.mono (Nat.le_refl _) ?_
    show (6 + 1) * e.1.length + 1 + (6 + 1 + 0) + 1 + (10 + 1 + 0) + 1 + (7 * sz + 21) * ks.length ≤ (7 * sz + 21) * (ks.length + 1)
    rw [Nat.mul_succ]
    omega
/-! ### lists of tuples of servers -/
def RowsL (K : PySem.W.Frag) (H : Hp) (ts : List V) (rows : List (List Nat)) : Prop := PySem.Paired (fun v ms => ∃ t, v = V.ref t ∧ SqT K H t (setV ms)) ts rows
theorem RowsL.same {K : PySem.W.Frag} {H H' : Hp} {ts : List V} {rows : List (List Nat)} (s : Same H H') (h : RowsL K H ts rows) : RowsL K H' ts rows := PySem.Paired.mono (fun v ms ⟨t, e, z⟩ => ⟨t, e, Same.seqT s z⟩) h
theorem RowsL.app {K : PySem.W.Frag} {H : Hp} {xs ys : List V} {L M : List (List Nat)} (h : RowsL K H xs L) (g : RowsL K H ys M) : RowsL K H (xs ++ ys) (L ++ M) := by
  unfold RowsL at *
  induction h with
  | nil => exact g
  | cons a _ ih => exact .cons a ih
theorem RowsL.len {K : PySem.W.Frag} {H : Hp} {ts : List V} {rows : List (List Nat)} (h : RowsL K H ts rows) : ts.length = rows.length := by
  unfold RowsL at h
  induction h with
  | nil => rfl
  | cons _ _ ih => exact congrArg (· + 1) ih
theorem RowsL.at {K : PySem.W.Frag} {H : Hp} {ts : List V} {rows : List (List Nat)} (h : RowsL K H ts rows) : ∀ {i : Nat} {v : V}, ts[i]? = some v → ∃ ms, rows[i]? = some ms ∧ ∃ t, v = V.ref t ∧ SqT K H t (setV ms) := by
  unfold RowsL at h
  induction h with
  | nil =>
    intro i v z
    cases z
  | cons a _ ih =>
    intro i v z
    cases i with
    | zero =>
      obtain rfl := Option.some.inj z
      exact ⟨_, rfl, a⟩
    | succ i => exact ih z
theorem RowsL.mem {K : PySem.W.Frag} {H : Hp} {ts : List V} {rows : List (List Nat)} (h : RowsL K H ts rows) {v : V} (hv : v ∈ ts) : ∃ ms, ms ∈ rows ∧ ∃ t, v = V.ref t ∧ SqT K H t (setV ms) := by
  obtain ⟨i, hi⟩ := List.getElem?_of_mem hv
  obtain ⟨ms, h1, h2⟩ := h.at hi
  exact ⟨ms, List.mem_of_getElem? h1, h2⟩
def tupD (ms : List Nat) : PyData := .tuple (natD ms)
theorem natD_ints (ms : List Nat) : natD ms = (intL ms).map PyData.int := by
  unfold natD
  rw [List.map_map]
  rfl
theorem dp_tup {K : PySem.W.Frag} {H : Hp} {t : Addr} {ms : List Nat} (h : SqT K H t (setV ms)) : Dp K H (.ref t) (tupD ms) := .tup h (dp_set ms)
theorem RowsL.dp {K : PySem.W.Frag} {H : Hp} {ts : List V} {rows : List (List Nat)} (h : RowsL K H ts rows) : DpAll K H ts (rows.map tupD) := by
  unfold RowsL at h
  induction h with
  | nil => exact .nil
  | cons a _ ih =>
    obtain ⟨t, rfl, ht⟩ := a
    exact .cons (dp_tup ht) ih
theorem RowsL.pairs {K : PySem.W.Frag} {H : Hp} {ts : List V} {rows : List (List Nat)} (h : RowsL K H ts rows) : ∃ bs : List (V × PyData), bs.map (·.1) = ts ∧ bs.map (·.2) = rows.map tupD ∧ ∀ b ∈ bs, Dp K H b.1 b.2 := by
  unfold RowsL at h
  induction h with
  | nil => exact ⟨[], rfl, rfl, fun _ hb => absurd hb List.not_mem_nil⟩
  | @cons v ms _ _ a _ ih =>
    obtain ⟨t, rfl, ht⟩ := a
    obtain ⟨bs, e1, e2, e3⟩ := ih
    refine ⟨(.ref t, tupD ms) :: bs, by rw [List.map_cons, e1], by rw [List.map_cons, e2]; rfl, fun b hb => ?_⟩
    rcases List.mem_cons.mp hb with rfl | hb
    · exact dp_tup ht
    · exact e3 b hb
theorem alike_tup (xs ys : List Nat) : PySem.W.alike (tupD xs) (tupD ys) = true := by
  unfold tupD
  rw [natD_ints, natD_ints]
  exact PySem.W.alike_ints _ _
theorem depth_tup (ms : List Nat) : (tupD ms).depth ≤ 20 := by
  unfold tupD
  rw [natD_ints]
  have : (PyData.tuple ((intL ms).map PyData.int)).depth = PyData.depthAll ((intL ms).map PyData.int) + 1 := rfl
  rw [this, PySem.W.depth_ints]
  decide
theorem dLe_tup {u v : V} {xs ys : List Nat} (h : LexLe xs ys) : dLe (u, tupD xs) (v, tupD ys) = true := by
  unfold tupD
  rw [natD_ints, natD_ints, dLe_ints, decide_eq_false h]
  rfl
theorem asc_pairs : ∀ {bs : List (V × PyData)} {rows : List (List Nat)}, bs.map (·.2) = rows.map tupD → rows.Pairwise LexLe → bs.Pairwise fun a b => dLe a b = true
  | [], _, _, _ => List.Pairwise.nil
  | _ :: _, [], e, _ => by cases e
  | (u, d) :: bs, ms :: rows, e, h => by
    obtain ⟨rfl, e2⟩ := List.cons.inj e
    obtain ⟨h1, h2⟩ := List.pairwise_cons.mp h
    refine List.pairwise_cons.mpr ⟨fun b hb => ?_, asc_pairs e2 h2⟩
    have hb2 : b.2 ∈ rows.map tupD := by
      rw [← e2]
      exact List.mem_map.mpr ⟨b, hb, rfl⟩
    obtain ⟨m2, hm2, eb⟩ := List.mem_map.mp hb2
    obtain ⟨bu, bd⟩ := b
    obtain rfl : tupD m2 = bd := eb
    exact dLe_tup (h1 m2 hm2)
/-- sorted of ascending rows -/
theorem sort_rows {K : PySem.W.Frag} {H : Hp} {a : Addr} {ts : List V} {rows : List (List Nat)} {Q : VK} (hL : SqL K H a ts) (r : RowsL K H ts rows) (asc : rows.Pairwise LexLe) (ne : ∀ ms ∈ rows, ms ≠ []) (q : ∀ p, H p = none → Q (.ref p) (upd H p (.lst ts))) : rSortD K [.ref a] H Q := by
  obtain ⟨bs, e1, e2, e3⟩ := r.pairs
  refine ⟨a, bs, rfl, by rw [e1]; exact hL, e3, ?_, ?_, fun b hb => ?_, fun p np => ?_⟩
  · rw [e2]
    intro d hd d' hd'
    obtain ⟨x, _, rfl⟩ := List.mem_map.mp hd
    obtain ⟨y, _, rfl⟩ := List.mem_map.mp hd'
    exact alike_tup x y
  · rw [e2]
    refine .inl fun d hd => ?_
    obtain ⟨ms, hm, rfl⟩ := List.mem_map.mp hd
    cases ms with
    | nil => exact absurd rfl (ne [] hm)
    | cons m r => exact ⟨_, _, rfl⟩
  · have hb2 : b.2 ∈ rows.map tupD := by
      rw [← e2]
      exact List.mem_map.mpr ⟨b, hb, rfl⟩
    obtain ⟨ms, _, e⟩ := List.mem_map.mp hb2
    rw [← e]
    exact depth_tup ms
  · rw [dsort_id (asc_pairs e2 asc), e1]
    exact q p np
theorem sh_rows {d : Nat} : ∀ {rows : List (List Nat)}, (∀ r ∈ rows, r.length ≤ d ∧ ∀ x ∈ r, x < 60) → ShAll 1 ((7 * d + 1) * rows.length) (rows.map tupD)
  | [], _ => ShAll.nil.mono (by decide) (Nat.zero_le _)
  | r :: rows, h => by
    obtain ⟨h1, h2⟩ := h r List.mem_cons_self
    have a := sh_nat (b := 6) (by decide) (by decide) (ms := r) fun x hx => by
      have := h2 x hx
      omega
    have b := Sh.tup a
    have m1 : (6 + 1) * r.length ≤ 7 * d := Nat.mul_le_mul_left 7 h1
    have c := ShAll.cons (b.mono (Nat.le_refl _) m1) (sh_rows fun r' hr => h r' (List.mem_cons_of_mem _ hr))
    refine c.mono (Nat.le_refl _) ?_
    show 7 * d + 1 + (7 * d + 1) * rows.length ≤ (7 * d + 1) * (rows.length + 1)
    rw [Nat.mul_succ]
    omega
theorem hide_upd {D : Addr} {H5 H6 : Hp} {o : HO} (s : Same H5 H6) : Same (hide D H5) (hide D (upd H6 D o)) := fun b x e => by
  by_cases h : b = D
  · unfold hide at e
    rw [if_pos h] at e
    cases e
  · rw [hide_ne h] at e ⊢
    rw [upd_ne h]
    exact s b x e
/-- one more row behind a list that is being made -/
theorem RowsL.grow {K : PySem.W.Frag} {D t : Addr} {H5 H6 : Hp} {ts : List V} {rows : List (List Nat)} {ms : List Nat} {o : HO} (s : Same H5 H6) (h : RowsL K (hide D H5) ts rows) (nt : t ≠ D) (ht : H6 t = some (.tup (setV ms))) : RowsL K (hide D (upd H6 D o)) (ts ++ [V.ref t]) (rows ++ [ms]) :=
  RowsL.app (h.same (hide_upd s)) (.cons ⟨t, rfl, SqT.of (by rw [hide_ne nt, upd_ne nt]; exact ht)⟩ .nil)
theorem RowsL.show {K : PySem.W.Frag} {D : Addr} {H : Hp} {ts : List V} {rows : List (List Nat)} (h : RowsL K (hide D H) ts rows) : RowsL K H ts rows := h.same (hide_same D H)
theorem range_rows {α : Type} (f : Nat → α) (z : Nat) : (List.range (z + 1)).map f = (List.range z).map f ++ [f z] := by
  rw [List.range_succ, List.map_append]
  rfl
/-! ### tables: tuples of tuples of servers -/
theorem paired_app {α β : Type} {R : α → β → Prop} {xs ys : List α} {L M : List β} (h : PySem.Paired R xs L) (g : PySem.Paired R ys M) : PySem.Paired R (xs ++ ys) (L ++ M) := by
  induction h with
  | nil => exact g
  | cons a _ ih => exact .cons a ih
/-- a tuple of tuples of servers -/
def TabAt (K : PySem.W.Frag) (H : Hp) (a : Addr) (rows : List (List Nat)) : Prop := ∃ ts : List V, SqT K H a ts ∧ PySem.Paired (fun v ms => ∃ t, v = V.ref t ∧ SqT K H t (setV ms)) ts rows
def stdRows (n d c : Nat) : List (List Nat) := (List.range c).map fun k => (path n d c k).1
theorem TabAt.same {K : PySem.W.Frag} {H H' : Hp} {a : Addr} {rows : List (List Nat)} (s : Same H H') (h : TabAt K H a rows) : TabAt K H' a rows := by
  obtain ⟨ts, h1, h2⟩ := h
  exact ⟨ts, Same.seqT s h1, PySem.Paired.mono (fun v ms ⟨t, e, z⟩ => ⟨t, e, Same.seqT s z⟩) h2⟩
/-! ### count_level -/
def spCLevel (P : Program) (w : World) (K : PySem.W.Frag) : Sp := fun vs H Q _ => ∃ (a : Addr) (ts : List V) (rows : List (List Nat)) (sz : Nat), vs = [.ref a, .int sz] ∧ SqT K H a ts ∧ RowsL K H ts rows ∧ rows.length ≤ 20000 ∧ (∀ r ∈ rows, r.length ≤ 60) ∧
  ∀ H' d, Same H H' → H d = none → DAt P w K H' d (tallyE (edgesL sz rows)) → Q (.ref d) H'
theorem edges_len (sz : Nat) (rows : List (List Nat)) : (edgesL sz rows).length ≤ rows.length := by
  unfold edgesL
  rw [List.length_map]
  exact List.length_filter_le _ _
section
variable {P : Program} {w : World} {K : PySem.W.Frag} {mg : Str → Option Value} {base : Heap}
theorem ok_clevel (T : Txt K mg) {j : Nat} : FnOk P w K mg base CX0 (j + 1) T.fCLevel T.fdCLevel ["table", "size"] (spCLevel P w K) := by
  refine T.FCLevel.ok scCLevel (fun vs H Q E h => ?_) (fun cdv A outer s H vs Q E hr h => ?_)
  · obtain ⟨a, ts, rows, sz, rfl, _⟩ := h
    rfl
  · obtain ⟨a, ts, rows, sz, rfl, hA, R0, hl, hrl, q⟩ := h
    have hu9 : (A.deeper (envOfC "count_level" (defScope sCLevel) s.heap.objs.size T.fCLevel cdv)).units + 9 < cLine := by
      have := hr.un
      omega
    refine ⟨_, pss_cons (ps_set (i := 2) scCLevel.nd rfl (.inl rfl) (pe_dnewN (P := P) (w := w))) (pss_cons (ps_for PassesOwn.never rfl (pi_tup (pv 0)) (pg_name (i := 3) scCLevel.nd rfl (.inl rfl)) (pss_one (ps_if (PW.pt (pw_and (pt_cmpR op_ge (pv 1) pe_int (nomark _)) (pw_and1 (pt_cmpR op_lt (pv 1) (pe_callB (call_lenK K) (by rfl) T.n_len PySem.boot_len (pa_cons (pv 3) pa_nil)) (nomark _))))) (pss_cons (ps_set (i := 4) scCLevel.nd rfl (.inl rfl) (pe_tup (pa_cons (pe_callTy (call_tupleK K) (by rfl) T.n_tuple (by decide +kernel) (pa_cons (pe_callB (cr_sortTI K) (by rfl) T.n_sorted (by decide +kernel) (pa_cons (pe_slice (sl_tupS K) (pv 3) po_none (po_some (pv 1))) pa_nil)) pa_nil)) (pa_cons (pe_ix (ix_tupK K) (pv 3) (pv 1) (fun _ _ => rfl)) pa_nil)))) (pss_one (ps_asg (pe_op op_add (pe_bmN (P := P) (w := w) PySem.F.slot_dict_get PySem.F.type_dict_get (mt_getDN (P := P) (w := w) K hu9) (pv 2) (pa_cons (pv 4) (pa_cons pe_int pa_nil))) pe_int) (pg_sub (pv 2) (pv 4) (set_dN (P := P) (w := w) K hu9))))) pss_nil))) (pss_one (ps_ret (pv 2)))), ?_⟩
    intro D nD
    refine ⟨.ref a, rfl, a, rfl, ⟨_, Same.seqT (same_new nD) hA⟩, for_tup (K := K) (a := a) (xs := ts) (fun i σ H3 => ∃ v3 v4, σ = [some (.ref a), some (.int sz), some (.ref D), v3, v4] ∧ Same H H3 ∧ DAt P w K H3 D (tallyE (edgesL sz (rows.take i)))) ⟨none, none, rfl, same_new nD, ⟨[], upd_same, fun x hx => absurd hx List.not_mem_nil, rfl⟩⟩ (fun i σ H3 _ ⟨_, _, _, s3, _⟩ => Same.seqT s3 hA) ?_ ?_⟩
    · rintro i v σ H3 hz ⟨v3, v4, rfl, s3, hD3⟩
      obtain ⟨r, hr2, t, rfl, hT⟩ := (R0.same s3).at hz
      have hrm := List.mem_of_getElem? hr2
      have hr6 := hrl r hrm
      have es := edges_snoc sz (rows.take i) r
      rw [← take_snoc hr2] at es
      refine ⟨_, rfl, _, _, rfl, rfl, _, rfl, ite2 (fun _ => ?_) (fun z => absurd (decide_eq_true (show (sz : Int) ≥ 0 by omega)) z)⟩
      refine ⟨_, rfl, .ref t, rfl, t, _, rfl, .inr hT, _, _, rfl, rfl, _, rfl, ?_⟩
      dsimp only
      rw [setV_len]
      refine ite2 (fun hb => ?_) (fun hb => ?_)
      · have hlt : sz < r.length := by
          have : (sz : Int) < (r.length : Int) := of_decide_eq_true hb
          omega
        rw [if_pos hlt] at es
        refine ⟨.ref t, rfl, _, rfl, _, rfl, t, _, rfl, hT, fun pc H4 s4 hC => ?_⟩
        rw [cut_take] at hC
        dsimp only [tNil]
        have hcl : (r.take sz).length ≤ 60 := by
          rw [List.length_take]
          omega
        refine ⟨pc, intL (r.take sz), rfl, .inr (by rw [← setV_ints]; exact hC), by rw [List.length_map]; omega, fun ns' q0 pm srtd nq0 => ?_⟩
        obtain ⟨ks, rfl, pk⟩ := ints_back pm
        rw [← setV_ints]
        obtain rfl : ks = srt (r.take sz) := srt_of pk (le_back srtd)
        refine ⟨q0, _, rfl, .inl ⟨SqL.of upd_same, fun tq ntq => ?_⟩⟩
        have s5 := (same_new (o := .lst (setV (srt (r.take sz)))) nq0).trans (same_new (o := .tup (setV (srt (r.take sz)))) ntq)
        have htq : (upd (upd H4 q0 (.lst (setV (srt (r.take sz))))) tq (.tup (setV (srt (r.take sz))))) tq = some (.tup (setV (srt (r.take sz)))) := upd_same
        have s35 := (s3.trans s4).trans s5
        have hD5 := hD3.same (s4.trans s5)
        have hT5 := Same.seqT (s4.trans s5) hT
        generalize upd (upd H4 q0 (.lst (setV (srt (r.take sz))))) tq (.tup (setV (srt (r.take sz)))) = H5 at s5 htq hD5 s35 hT5 ⊢
        have hx : r[sz]? = some (r.getD sz 0) := by
          rw [List.getD_eq_getElem?_getD, List.getElem?_eq_getElem hlt]
          rfl
        refine ⟨.ref t, rfl, _, rfl, t, _, _, _, rfl, rfl, hT5, atI_nat (setV_at hx), by show 2 ≤ sizeLine; decide, fun ue nue => ?_⟩
        have s6 := same_new (o := .tup [V.ref tq, V.int ((r.getD sz 0 : Nat) : Int)]) nue
        have hue : (upd H5 ue (.tup [V.ref tq, V.int ((r.getD sz 0 : Nat) : Int)])) ue = some (.tup [V.ref tq, V.int ((r.getD sz 0 : Nat) : Int)]) := upd_same
        have hD6 := hD5.same s6
        have htq6 := s6 _ _ htq
        have s36 := s35.trans s6
        dsimp only [gName]
        generalize upd H5 ue (.tup [V.ref tq, V.int ((r.getD sz 0 : Nat) : Int)]) = H6 at s6 hue hD6 htq6 s36
        have hk : NkAt K H6 (nkE (edgeL sz r)) (.ref ue) := nkE_at (e := edgeL sz r) (SqT.of hue) (SqT.of htq6)
        have dl : (tallyE (edgesL sz (rows.take i))).length ≤ ((edgesL sz (rows.take i)).map nkE).length := tally_lenG _
        have el := edges_len sz (rows.take i)
        rw [List.length_map] at dl
        rw [List.length_take] at el
        have htg := tally_getG nkE nkE_inj (edgesL sz (rows.take i)) (edgeL sz r)
        obtain ⟨xs6, e6, _⟩ := id hD6
        refine ⟨.ref D, rfl, ⟨D, xs6, rfl, e6⟩, .ref ue, rfl, D, ue, .int 0, _, nkE (edgeL sz r), rfl, rfl, hD6, hk, nkE_depth _, ?_⟩
        rw [htg]
        refine ⟨_, _, rfl, rfl, .ref D, rfl, .ref ue, rfl, D, ue, _, nkE (edgeL sz r), rfl, rfl, hD6, hk, nkE_depth _, by rw [sizeLine_eq]; omega, fun u hu => ?_⟩
        rw [tally_oneG nkE nkE_inj] at hu
        exact ⟨_, _, rfl, keep_upd s36 nD, by rw [es]; exact hu⟩
      · have hlt : ¬ sz < r.length := fun z => hb (decide_eq_true (by omega))
        rw [if_neg hlt, List.append_nil] at es
        exact ⟨_, _, rfl, s3, by rw [es]; exact hD3⟩
    · rintro σ H3 ⟨v3, v4, rfl, s3, hD3⟩
      rw [R0.len, List.take_length] at hD3
      exact ⟨.ref D, rfl, q _ D s3 nD hD3⟩
end
/-! ### level_numbers -/
def spLevNums (K : PySem.W.Frag) : Sp := fun vs H Q _ => ∃ (n : Nat) (a : Addr) (ts : List V) (rows : List (List Nat)) (sz : Nat), vs = [.int n, .ref a, .int sz] ∧ SqT K H a ts ∧ RowsL K H ts rows ∧ rows.length ≤ 20000 ∧ (∀ r ∈ rows, r.length ≤ 60) ∧
  ∀ H' t, Same H H' → H t = none → LevAt K H' t (edgesL sz rows) → Q (.ref t) H'
theorem nkE_ref {K : PySem.W.Frag} {H : Hp} {e : Edge} {v : V} (h : NkAt K H (nkE e) v) : ∃ b, v = .ref b := by
  unfold nkE at h
  cases h
  exact ⟨_, rfl⟩
theorem tallyE_val {es : List Edge} {k : NestedKey} (h : k ∈ sortE es) : valV (tallyE es) k = some (.int ((es.map nkE).count k : Nat)) := by
  rw [tally_val _ _ rfl, if_neg]
  have h2 := (tally_keys _ k).mp ((List.mergeSort_perm _ _).mem_iff.mp h)
  have := List.count_pos_iff.mpr h2
  omega
section
variable {P : Program} {w : World} {K : PySem.W.Frag} {mg : Str → Option Value} {base : Heap}
theorem ok_levnums (T : Txt K mg) {j : Nat} : FnOk P w K mg base CX0 (j + 2) T.fLevNums T.fdLevNums ["n", "table", "size"] (spLevNums K) := by
  refine T.FLevNums.ok scLevNums (fun vs H Q E h => ?_) (fun cdv A outer s H vs Q E hr h => ?_)
  · obtain ⟨n, a, ts, rows, sz, rfl, _⟩ := h
    rfl
  · obtain ⟨n, a, ts, rows, sz, rfl, hA, R0, hl, hrl, q⟩ := h
    have hu64 : (A.deeper (envOfC "level_numbers" (defScope sLevNums) s.heap.objs.size T.fLevNums cdv)).units + 64 < cLine := by
      have := hr.un
      omega
    have hu9 : (A.deeper (envOfC "level_numbers" (defScope sLevNums) s.heap.objs.size T.fLevNums cdv)).units + 9 < cLine := by omega
    refine ⟨_, pss_cons (ps_set (i := 3) scLevNums.nd rfl (.inr rfl) (pe_call (ok_clevel T) hr (by rfl) T.gCLevel T.FCLevel.kp T.bCLevel .nil pass0 (pa_cons (pv 1) (pa_cons (pv 2) pa_nil)))) (pss_one (ps_ret (pe_callTy (call_tupleK K) (by rfl) T.n_tuple (by decide +kernel) (pa_cons (pe_lc (own := [("edge", 4)]) (g := (gName 4)) (tt := tYes) rfl scLevNums.nd (pi_list (pe_callB (cr_sortN (P := P) (w := w) K rfl hu64) (by rfl) T.n_sorted (by decide +kernel) (pa_cons (pv 3) pa_nil))) (blkOk_by (own := [("edge", 4)]) (N := NLevNums) (sc := defScope sLevNums) (by decide +kernel)) (fun _ _ _ _ _ => (pg_name (i := 4) scLevNums.nd rfl (.inl rfl))) (fun _ _ _ _ _ => pts_nil) (fun _ _ _ _ _ => (pe_tup (pa_cons (pv 4) (pa_cons (pe_ix (ix_dN (P := P) (w := w) K hu9) (pv 3) (pv 4) (fun _ _ => rfl)) pa_nil))))) pa_nil)))), ?_⟩
    refine ⟨_, rfl, _, rfl, a, ts, rows, sz, rfl, hA, R0, hl, hrl, fun H2 d s2 nd (hD : DAt P w K H2 d (tallyE (edgesL sz rows))) => ?_⟩
    have el := edges_len sz rows
    generalize edgesL sz rows = es at hD q el
    dsimp only [gName]
    refine ⟨_, rfl, d, _, rfl, hD, tallyE_alike es, tallyE_sortable es, tallyE_depth es, fun p us np hus => ?_⟩
    have s3 := same_new (o := .lst us) np
    refine ⟨p, rfl, ⟨_, SqL.of upd_same⟩, fun D nDD => ?_⟩
    have hp3 : (upd H2 p (.lst us)) p = some (.lst us) := upd_same
    have hD3 := hD.same s3
    have hus3 : PySem.Paired (fun v k => NkAt K (upd H2 p (.lst us)) k v) us (sortE es) := PySem.Paired.mono (fun v k z => z.same s3) hus
    have s23 := s2.trans s3
    generalize upd H2 p (.lst us) = H3 at s3 hp3 hD3 hus3 s23 nDD
    have sl := sortE_len es
    refine lc_list (K := K) (a := p) (xs := us) (fun z H4 => ∃ ws, Same H3 H4 ∧ H4 D = some (.lst ws) ∧ PySem.Paired (fun v k => ∃ u b, v = V.ref u ∧ SqT K H4 u [.ref b, .int ((es.map nkE).count k : Nat)] ∧ NkAt K H4 k (.ref b)) ws ((sortE es).take z)) ⟨[], same_new nDD, upd_same, .nil⟩ (fun _ H4 _ ⟨_, s4, _⟩ => SqL.of (s4 _ _ hp3)) ?_ ?_
    · rintro z v H4 hz ⟨ws, s4, hD4, r4⟩
      rcases paired_at hus3 z with ⟨c, _⟩ | ⟨v', k, c1, c2, hk⟩
      · rw [hz] at c
        cases c
      rw [hz] at c1
      obtain rfl := Option.some.inj c1
      obtain ⟨e, he, rfl⟩ := sortE_mem (List.mem_of_getElem? c2)
      have hv := tallyE_val (List.mem_of_getElem? c2)
      obtain ⟨b, rfl⟩ := nkE_ref hk
      have hk4 := hk.same s4
      have wl := PySem.Paired.length r4
      rw [List.length_take] at wl
      refine ⟨rfl, .ref b, rfl, .ref d, rfl, .ref b, rfl, d, b, _, nkE e, _, rfl, rfl, hD3.same s4, hk4, nkE_depth e, hv, by show 2 ≤ sizeLine; decide, fun u nu => ?_⟩
      have s5 := same_new (o := .tup [V.ref b, V.int ((es.map nkE).count (nkE e) : Nat)]) nu
      have hD5 := s5 _ _ hD4
      refine ⟨ws, hD5, by rw [sizeLine_eq]; omega, ws ++ [.ref u], keep_upd (s4.trans s5) nDD, upd_same, ?_⟩
      rw [take_snoc c2]
      refine paired_app (PySem.Paired.mono (fun v k ⟨u, b, e, z1, z2⟩ => ⟨u, b, e, SqT_updL (Same.seqT s5 z1) hD5, NkAt.mono (fun a zs h => SqT_updL h hD5) _ _ (z2.same s5)⟩) r4) (.cons ⟨u, b, rfl, SqT_updL (SqT.of upd_same) hD5, NkAt.mono (fun a zs h => SqT_updL h hD5) _ _ (hk4.same s5)⟩ .nil)
    · rintro H4 ⟨ws, s4, hD4, r4⟩
      have ul := PySem.Paired.length hus3
      rw [ul, List.take_length] at r4
      refine ⟨D, _, rfl, .inl ⟨SqL.of hD4, fun t nt => ?_⟩⟩
      have s5 := same_new (o := .tup ws) nt
      exact q _ t ((s23.trans s4).trans s5) ((s23.trans s4).free nt) ⟨ws, upd_same, PySem.Paired.mono (fun v k ⟨u, b, e, z1, z2⟩ => ⟨u, b, e, Same.seqT s5 z1, z2.same s5⟩) r4⟩
end
/-! ### rows of different servers -/
def Good (n d : Nat) (rows : List (List Nat)) : Prop := rows ≠ [] ∧ ∀ r ∈ rows, r.length = d ∧ r.Nodup ∧ ∀ x ∈ r, x < n
/-! ### levels that are equal -/
def cntE (es : List Edge) (e : Edge) : Nat := @List.count Edge instBEqOfDecidableEq e es
def distE (es : List Edge) : Nat := (tallyE es).length
def levB (n sz : Nat) (es : List Edge) : Bool := decide (distE es = n * C (n - 1) sz ∧ ∀ e ∈ es, ∀ e' ∈ es, cntE es e = cntE es e')
theorem edge_mem {n d sz : Nat} {rows : List (List Nat)} (G : Good n d rows) (hs : sz < d) : ∀ e ∈ edgesL sz rows, e ∈ allE n sz := fun e he => by
  rw [edges_all fun r hr => by rw [(G.2 r hr).1]; exact hs] at he
  obtain ⟨r, hr, rfl⟩ := List.mem_map.mp he
  obtain ⟨h1, h2, h3⟩ := G.2 r hr
  have pm := srt_perm (r.take sz)
  have hlt : sz < r.length := by omega
  have hx : r.getD sz 0 = r[sz] := by
    rw [List.getD_eq_getElem?_getD, List.getElem?_eq_getElem hlt]
    rfl
  have nd : (r.take sz).Nodup := h2.sublist (List.take_sublist _ _)
  refine allE_mem ?_ ?_ (srt_asc nd) fun y hy => ?_
  · rw [hx]
    exact h3 _ (List.getElem_mem _)
  · rw [pm.length_eq, List.length_take]
    omega
  · have hy2 := pm.mem_iff.mp hy
    refine ⟨h3 y (List.mem_of_mem_take hy2), fun e => ?_⟩
    obtain ⟨i, hi⟩ := List.getElem?_of_mem hy2
    rw [List.getElem?_take] at hi
    split at hi
    · rename_i hlt2
      have h4 : r[sz]? = some y := by
        rw [List.getElem?_eq_getElem hlt, e, hx]
      have := (List.getElem?_inj (show i < r.length by omega) h2).mp (hi.trans h4.symm)
      omega
    · cases hi
theorem dist_le {n d sz : Nat} {rows : List (List Nat)} (G : Good n d rows) (hs : sz < d) : distE (edgesL sz rows) ≤ n * C (n - 1) sz := by
  rw [← allE_len, ← List.length_map (f := nkE)]
  unfold distE
  rw [← List.length_map (f := fun x : NestedKey × V => x.1)]
  refine subG_len (tally_nodup _ _ rfl) fun k hk => ?_
  obtain ⟨e, he, rfl⟩ := keyE_mem hk
  exact List.mem_map.mpr ⟨e, edge_mem G hs e he, rfl⟩
theorem dist_pos {n d sz : Nat} {rows : List (List Nat)} (G : Good n d rows) (hs : sz < d) : 0 < distE (edgesL sz rows) := by
  unfold distE
  rw [← List.length_map (f := fun x : NestedKey × V => x.1)]
  obtain ⟨r, hr⟩ := List.exists_mem_of_ne_nil _ G.1
  have : nkE (edgeL sz r) ∈ (tallyE (edgesL sz rows)).map (·.1) := (tally_keys _ _).mpr (List.mem_map.mpr ⟨_, by
    rw [edges_all fun r hr => by rw [(G.2 r hr).1]; exact hs]
    exact List.mem_map.mpr ⟨r, hr, rfl⟩, rfl⟩)
  exact List.length_pos_of_mem this
/-- the numbers of the edges that occur -/
def numsE (es : List Edge) : List Int := ((tallyE es).map (·.1)).map fun k => (((es.map nkE).count k : Nat) : Int)
theorem numsE_snd (es : List Edge) : (tallyE es).map (·.2) = (numsE es).map V.int := tally_snd _
theorem numsE_len (es : List Edge) : (numsE es).length = distE es := by
  unfold numsE distE
  rw [List.length_map, List.length_map]
theorem numsE_mem {es : List Edge} {i : Int} : i ∈ numsE es ↔ ∃ e ∈ es, ((cntE es e : Nat) : Int) = i := by
  unfold numsE
  constructor
  · intro h
    obtain ⟨k, hk, rfl⟩ := List.mem_map.mp h
    obtain ⟨e, he, rfl⟩ := keyE_mem hk
    exact ⟨e, he, congrArg Int.ofNat (map_countG nkE nkE_inj es e).symm⟩
  · rintro ⟨e, he, rfl⟩
    refine List.mem_map.mpr ⟨nkE e, (tally_keys _ _).mpr (List.mem_map.mpr ⟨e, he, rfl⟩), ?_⟩
    exact congrArg Int.ofNat (map_countG nkE nkE_inj es e)
theorem minmax {es : List Edge} {m M : Int} (h1 : m ∈ numsE es) (h2 : ∀ y ∈ numsE es, m ≤ y) (h3 : M ∈ numsE es) (h4 : ∀ y ∈ numsE es, y ≤ M) : (m = M ↔ ∀ e ∈ es, ∀ e' ∈ es, cntE es e = cntE es e') := by
  constructor
  · intro e x hx y hy
    have a1 := h2 _ (numsE_mem.mpr ⟨x, hx, rfl⟩)
    have a2 := h4 _ (numsE_mem.mpr ⟨x, hx, rfl⟩)
    have b1 := h2 _ (numsE_mem.mpr ⟨y, hy, rfl⟩)
    have b2 := h4 _ (numsE_mem.mpr ⟨y, hy, rfl⟩)
    omega
  · intro h
    obtain ⟨x, hx, rfl⟩ := numsE_mem.mp h1
    obtain ⟨y, hy, rfl⟩ := numsE_mem.mp h3
    rw [h x hx y hy]
/-- min == max, with the number of edges told -/
theorem lev_minmax {n sz : Nat} {es : List Edge} {m M : Int} (hd : distE es = n * C (n - 1) sz) (h1 : m ∈ numsE es) (h2 : ∀ y ∈ numsE es, m ≤ y) (h3 : M ∈ numsE es) (h4 : ∀ y ∈ numsE es, y ≤ M) : decide (V.int m = V.int M) = levB n sz es := by
  unfold levB
  refine decide_eq_decide.mpr ⟨fun h => ⟨hd, (minmax h1 h2 h3 h4).mp ?_⟩, fun h => ?_⟩
  · injection h
  · rw [(minmax h1 h2 h3 h4).mpr h.2]
/-- the first level that is not equal, or the depth -/
def reachE (n d : Nat) (rows : List (List Nat)) : Nat := ((List.range d).find? fun sz => !levB n sz (edgesL sz rows)).getD d
theorem find_first (p : Nat → Bool) : ∀ (d i : Nat), i < d → (∀ j, j < i → p j = false) → p i = true → (List.range d).find? p = some i
  | 0, i, h, _, _ => by omega
  | d + 1, i, h, h1, h2 => by
    rw [List.range_succ, List.find?_append]
    by_cases c : i < d
    · rw [find_first p d i c h1 h2]
      rfl
    · have e : i = d := by omega
      subst e
      have : (List.range i).find? p = none := by
        rw [List.find?_eq_none]
        intro x hx
        rw [h1 x (List.mem_range.mp hx)]
        decide
      rw [this, List.find?_cons, h2]
      rfl
theorem reach_at {n d i : Nat} {rows : List (List Nat)} (hi : i < d) (h1 : ∀ j, j < i → levB n j (edgesL j rows) = true) (h2 : levB n i (edgesL i rows) = false) : reachE n d rows = i := by
  unfold reachE
  rw [find_first (fun sz => !levB n sz (edgesL sz rows)) d i hi (fun j hj => by show (!levB n j (edgesL j rows)) = false; rw [h1 j hj]; rfl) (by show (!levB n i (edgesL i rows)) = true; rw [h2]; rfl)]
  rfl
theorem reach_all {n d : Nat} {rows : List (List Nat)} (h1 : ∀ j, j < d → levB n j (edgesL j rows) = true) : reachE n d rows = d := by
  unfold reachE
  have : (List.range d).find? (fun sz => !levB n sz (edgesL sz rows)) = none := by
    rw [List.find?_eq_none]
    intro x hx
    rw [h1 x (List.mem_range.mp hx)]
    decide
  rw [this]
  rfl
/-! ### is_level -/
def spIsLev (K : PySem.W.Frag) : Sp := fun vs H Q _ => ∃ (n : Nat) (a : Addr) (ts : List V) (rows : List (List Nat)) (sz d : Nat), vs = [.int n, .ref a, .int sz] ∧ SqT K H a ts ∧ RowsL K H ts rows ∧ rows.length ≤ 20000 ∧ Good n d rows ∧ n ≤ 60 ∧ d ≤ n ∧ sz < d ∧
  ∀ H', Same H H' → Q (.bl (levB n sz (edgesL sz rows))) H'
section
variable {P : Program} {w : World} {K : PySem.W.Frag} {mg : Str → Option Value} {base : Heap}
theorem ok_islev (T : Txt K mg) {j : Nat} : FnOk P w K mg base CX0 (j + 3) T.fIsLev T.fdIsLev ["n", "table", "size"] (spIsLev K) := by
  refine T.FIsLev.ok scIsLev (fun vs H Q E h => ?_) (fun cdv A outer s H vs Q E hr h => ?_)
  · obtain ⟨n, a, ts, rows, sz, d, rfl, _⟩ := h
    rfl
  · obtain ⟨n, a, ts, rows, sz, d, rfl, hA, R0, hl, G, hn, hd, hs, q⟩ := h
    refine ⟨_, pss_cons (ps_set (i := 3) scIsLev.nd rfl (.inl rfl) (pe_call (ok_clevel T) hr (by rfl) T.gCLevel T.FCLevel.kp T.bCLevel .nil pass0 (pa_cons (pv 1) (pa_cons (pv 2) pa_nil)))) (pss_cons (ps_if (pt_cmpR op_eq (pe_callB (call_lenN (P := P) (w := w) K) (by rfl) T.n_len PySem.boot_len (pa_cons (pv 3) pa_nil)) pe_int (nomark _)) (pss_one (ps_ret pe_bl)) pss_nil) (pss_cons (ps_if (pt_cmpR op_lt (pe_callB (call_lenN (P := P) (w := w) K) (by rfl) T.n_len PySem.boot_len (pa_cons (pv 3) pa_nil)) (pe_call (ok_edge T) hr (by rfl) T.gEdge T.FEdge.kp T.bEdge .nil pass0 (pa_cons (pv 0) (pa_cons (pv 2) pa_nil))) (nomark _)) (pss_one (ps_ret pe_bl)) pss_nil) (pss_one (ps_ret (pe_cmpR op_eq (pe_callB (cr_minN (P := P) (w := w) K rfl) (by rfl) T.n_min (by decide +kernel) (pa_cons (pe_valsN (P := P) (w := w) (pv 3)) pa_nil)) (pe_callB (cr_maxN (P := P) (w := w) K rfl) (by rfl) T.n_max (by decide +kernel) (pa_cons (pe_valsN (P := P) (w := w) (pv 3)) pa_nil)) (nomark _)))))), ?_⟩
    have hle := dist_le G hs
    have hpos := dist_pos G hs
    refine ⟨_, rfl, _, rfl, a, ts, rows, sz, rfl, hA, R0, hl, fun r hr => by rw [(G.2 r hr).1]; omega, fun H2 dd s2 nd (hD : DAt P w K H2 dd (tallyE (edgesL sz rows))) => ?_⟩
    generalize edgesL sz rows = es at hD q hle hpos
    have hlen : (tallyE es).length = distE es := rfl
    dsimp only [gName]
    refine ⟨.ref dd, rfl, dd, _, rfl, hD, rfl, _, rfl, ite2 (fun z => ?_) (fun _ => ?_)⟩
    · have e1 := of_decide_eq_true z
      injection e1 with e1
      exfalso
      omega
    refine ⟨.ref dd, rfl, dd, _, rfl, hD, _, rfl, _, rfl, n, sz, rfl, hn, by omega, _, _, rfl, rfl, _, rfl, ite2 (fun z => ?_) (fun z => ?_)⟩
    · have e1 : ((tallyE es).length : Int) < ((n * C (n - 1) sz : Nat) : Int) := of_decide_eq_true z
      have e2 : levB n sz es = false := by
        unfold levB
        exact decide_eq_false fun c => by omega
      rw [e2] at q
      exact q _ s2
    · have e1 : ¬ ((tallyE es).length : Int) < ((n * C (n - 1) sz : Nat) : Int) := fun c => z (decide_eq_true c)
      obtain ⟨xs, ex, _⟩ := id hD
      refine ⟨.ref dd, rfl, dd, xs, rfl, ex, fun pv npv => ?_⟩
      have sV := same_new (o := viewO "dict_values" pv dd) npv
      have hDV := hD.same sV
      refine ⟨pv, dd, _, numsE es, rfl, upd_same, hDV, numsE_snd es, by rw [numsE_len]; omega, fun m m1 m2 => ?_⟩
      refine ⟨.ref dd, rfl, dd, xs, rfl, sV _ _ ex, fun pw npw => ?_⟩
      have sW := same_new (o := viewO "dict_values" pw dd) npw
      refine ⟨pw, dd, _, numsE es, rfl, upd_same, hDV.same sW, numsE_snd es, by rw [numsE_len]; omega, fun M M1 M2 => ⟨rfl, ?_⟩⟩
      rw [lev_minmax (n := n) (sz := sz) (by omega) m1 m2 M1 M2]
      exact q _ ((s2.trans sV).trans sW)
end
/-! ### even_reach -/
def spReachE (K : PySem.W.Frag) : Sp := fun vs H Q _ => ∃ (n : Nat) (a : Addr) (ts : List V) (rows : List (List Nat)) (d : Nat), vs = [.int n, .ref a] ∧ SqT K H a ts ∧ RowsL K H ts rows ∧ rows.length ≤ 20000 ∧ Good n d rows ∧ n ≤ 60 ∧ d ≤ n ∧
  ∀ H', Same H H' → Q (.int (reachE n d rows : Nat)) H'
section
variable {P : Program} {w : World} {K : PySem.W.Frag} {mg : Str → Option Value} {base : Heap}
theorem ok_reache (T : Txt K mg) {j : Nat} : FnOk P w K mg base CX0 (j + 4) T.fReachE T.fdReachE ["n", "table"] (spReachE K) := by
  refine T.FReachE.ok scReachE (fun vs H Q E h => ?_) (fun cdv A outer s H vs Q E hr h => ?_)
  · obtain ⟨n, a, ts, rows, d, rfl, _⟩ := h
    rfl
  · obtain ⟨n, a, ts, rows, d, rfl, hA, R0, hl, G, hn, hd, q⟩ := h
    have hu64 : (A.deeper (envOfC "even_reach" (defScope sReachE) s.heap.objs.size T.fReachE cdv)).units + 64 < cLine := by
      have := hr.un
      omega
    refine ⟨_, pss_cons (ps_set (i := 2) scReachE.nd rfl (.inl rfl) (pe_callBK (cr_maxDf K rfl hu64) (by rfl) T.n_max (by decide +kernel) (pa_cons (pe_lc (own := [("order", 3)]) (g := (gName 3)) (tt := tYes) rfl scReachE.nd (pi_tup (pv 1)) (blkOk_by (own := [("order", 3)]) (N := NReachE) (sc := defScope sReachE) (by decide +kernel)) (fun _ _ _ _ _ => (pg_name (i := 3) scReachE.nd rfl (.inl rfl))) (fun _ _ _ _ _ => pts_nil) (fun _ _ _ _ _ => (pe_callB (call_lenK K) (by rfl) T.n_len PySem.boot_len (pa_cons (pv 3) pa_nil)))) pa_nil) (pk_cons pe_int pk_nil))) (pss_cons (ps_for PassesOwn.never rfl (pi_range1 (by rfl) T.n_range (pa_cons (pv 2) pa_nil)) (pg_name (i := 4) scReachE.nd rfl (.inl rfl)) (pss_one (ps_if (pt_not (pt_val (pe_call (ok_islev T) hr (by rfl) T.gIsLev T.FIsLev.kp T.bIsLev .nil pass0 (pa_cons (pv 0) (pa_cons (pv 1) (pa_cons (pv 4) pa_nil)))))) (pss_one (ps_ret (pv 4))) pss_nil))) (pss_one (ps_ret (pv 2)))), ?_⟩
    have tl := R0.len
    refine ⟨.ref a, rfl, a, rfl, ⟨_, hA⟩, fun D nD => ?_⟩
    refine lc_tup (a := a) (xs := ts) (fun z H3 => Same H H3 ∧ H3 D = some (.lst (setV (List.replicate z d)))) ⟨same_new nD, upd_same⟩ (fun _ H3 _ h3 => Same.seqT h3.1 hA) ?_ ?_
    · rintro z v H3 hz ⟨s3, hD⟩
      obtain ⟨r, hr2, t, rfl, hT⟩ := (R0.same s3).at hz
      have hz2 : z < ts.length := (List.getElem?_eq_some_iff.mp hz).1
      refine ⟨rfl, .ref t, rfl, t, _, rfl, .inr hT, _, hD, ?_, keep_upd s3 nD, ?_⟩
      · rw [setV_len, List.length_replicate, sizeLine_eq]
        omega
      · rw [upd_same, setV_len, (G.2 r (List.mem_of_getElem? hr2)).1, List.replicate_succ', setV_app]
        rfl
    · rintro H3 ⟨s3, hD⟩
      have rp : 0 < rows.length := List.length_pos_iff.mpr G.1
      refine ⟨D, intL (List.replicate ts.length d), _, rfl, rfl, SqL.of (by rw [hD, setV_ints]), by rw [List.length_map, List.length_replicate]; omega, fun m m1 _ => ?_⟩
      obtain ⟨x, hx, rfl⟩ := List.mem_map.mp m1
      obtain rfl : x = d := List.eq_of_mem_replicate hx
      dsimp only [gName]
      refine ⟨_, rfl, (x : Int), rfl, by omega, by omega, ?_⟩
      refine for_range (lo := 0) (n := (x : Int).toNat) (fun i σ H4 => ∃ v4, σ = [some (.int n), some (.ref a), some (.int x), none, v4] ∧ Same H H4 ∧ ∀ j, j < i → levB n j (edgesL j rows) = true) ⟨none, rfl, s3, fun j hj => absurd hj (Nat.not_lt_zero _)⟩ ?_ ?_
      · rintro i σ H4 hi ⟨v4, rfl, s4, al⟩
        have hid : i < x := by omega
        rw [Int.zero_add]
        refine ⟨_, rfl, .ref a, rfl, _, rfl, n, a, ts, rows, i, x, rfl, Same.seqT s4 hA, R0.same s4, hl, G, hn, hd, hid, fun H5 s5 => ⟨_, rfl, ?_⟩⟩
        cases hb : levB n i (edgesL i rows) with
        | true =>
          refine iteF ⟨_, rfl, s4.trans s5, fun j hj => ?_⟩
          by_cases e : j = i
          · rw [e]
            exact hb
          · exact al j (by omega)
        | false =>
          refine iteT ⟨_, rfl, ?_⟩
          rw [reach_at hid al hb] at q
          exact q _ (s4.trans s5)
      · rintro σ H4 ⟨v4, rfl, s4, al⟩
        rw [Int.toNat_natCast] at al
        refine ⟨_, rfl, ?_⟩
        rw [reach_all al] at q
        exact q _ s4
end
/-! ### is_set, and the law's own look -/
def chk (n : Int) : Int → List PyData → Bool
  | _, [] => true
  | least, .int i :: r => decide (least ≤ i) && (decide (i < n) && chk n (i + 1) r)
  | _, _ :: _ => false
def setD (n : Int) : PyData → Bool
  | .tuple ds => chk n 0 ds
  | _ => false
theorem tyN_in (d : PyData) : tyN d ∈ tyNames := by
  cases d with
  | none => exact (by decide : "NoneType" ∈ tyNames)
  | bool _ => exact (by decide : "bool" ∈ tyNames)
  | int _ => exact (by decide : "int" ∈ tyNames)
  | str _ => exact (by decide : "str" ∈ tyNames)
  | list _ => exact (by decide : "list" ∈ tyNames)
  | tuple _ => exact (by decide : "tuple" ∈ tyNames)
  | dict _ => exact (by decide : "dict" ∈ tyNames)
theorem tyN_int {d : PyData} (h : (tyN d == "int") = true) : ∃ i, d = .int i := by
  cases d with
  | int i => exact ⟨i, rfl⟩
  | none => exact absurd (show ("NoneType" == "int") = true from h) (by decide)
  | bool _ => exact absurd (show ("bool" == "int") = true from h) (by decide)
  | str _ => exact absurd (show ("str" == "int") = true from h) (by decide)
  | list _ => exact absurd (show ("list" == "int") = true from h) (by decide)
  | tuple _ => exact absurd (show ("tuple" == "int") = true from h) (by decide)
  | dict _ => exact absurd (show ("dict" == "int") = true from h) (by decide)
theorem chk_no {n least : Int} {d : PyData} {r : List PyData} (h : (tyN d == "int") = false) : chk n least (d :: r) = false := by
  cases d with
  | int i => exact absurd (show ("int" == "int") = false from h) (by decide)
  | _ => rfl
theorem chk_int (n least i : Int) (r : List PyData) : chk n least (.int i :: r) = (decide (least ≤ i) && (decide (i < n) && chk n (i + 1) r)) := rfl
theorem drop_at {ds : List PyData} {i : Nat} {d : PyData} (h : ds[i]? = some d) : ds.drop i = d :: ds.drop (i + 1) := by
  obtain ⟨hl, e⟩ := List.getElem?_eq_some_iff.mp h
  rw [List.drop_eq_getElem_cons hl, e]
def spSet (K : PySem.W.Frag) : Sp := fun vs H Q _ => ∃ (n : Int) (v : V) (d : PyData), vs = [.int n, v] ∧ ItemV K H v d ∧ Q (.bl (setD n d)) H
theorem item_tuple_parts {K : PySem.W.Frag} {H : Hp} {v : V} {ds : List PyData} (h : ItemV K H v (.tuple ds)) : ∃ a xs, v = .ref a ∧ SqT K H a xs ∧ DpAll K H xs ds := by
  rcases h with ⟨h, _⟩ | ⟨e, _⟩
  · cases h with
    | tup h t => exact ⟨_, _, rfl, h, t⟩
  · cases e
section
variable {P : Program} {w : World} {K : PySem.W.Frag} {mg : Str → Option Value} {base : Heap}
theorem ok_set (T : Txt K mg) {j : Nat} : FnOk P w K mg base CX0 (j + 2) T.fSet T.fdSet ["n", "thing"] (spSet K) := by
  refine T.FSet.ok scSet (fun vs H Q E h => ?_) (fun cdv A outer s H vs Q E hr h => ?_)
  · obtain ⟨n, v, d, rfl, _⟩ := h
    rfl
  · obtain ⟨n, v, d, rfl, hv, q⟩ := h
    refine ⟨_, pss_cons (ps_if (pt_not (pt_val (pe_callB (call_isiK1 K) (by rfl) T.n_isinstance (by decide +kernel) (pa_cons (pv 1) (pa_cons (pe_bltn (v := .ty "tuple") (by rfl) T.n_tuple (by decide +kernel) rfl) pa_nil))))) (pss_one (ps_ret pe_bl)) pss_nil) (pss_cons (ps_set (i := 2) scSet.nd rfl (.inl rfl) pe_int) (pss_cons (ps_for PassesOwn.never rfl (pi_tup (pv 1)) (pg_name (i := 3) scSet.nd rfl (.inl rfl)) (pss_cons (ps_if (PW.pt (pw_or (pt_not (pt_val (pe_call (ok_plain T) hr (by rfl) T.gPlain T.FPlain.kp T.bPlain .nil pass0 (pa_cons (pv 3) pa_nil)))) (pw_or (pt_cmpR op_lt (pv 3) (pv 2) (nomark _)) (pw_or1 (pt_cmpR op_ge (pv 3) (pv 0) (nomark _)))))) (pss_one (ps_ret pe_bl)) pss_nil) (pss_one (ps_set (i := 2) scSet.nd rfl (.inl rfl) (pe_op op_add (pv 3) pe_int))))) (pss_one (ps_ret pe_bl)))), ?_⟩
    refine ⟨v, rfl, v, .ty "tuple", _, _, _, rfl, .ty _, hv.ty, kit_tuple (tyN_in d), _, rfl, ?_⟩
    cases d with
    | tuple ds =>
      refine iteF ?_
      obtain ⟨a, xs, rfl, hx, ht⟩ := item_tuple_parts hv
      refine ⟨.ref a, rfl, a, rfl, ⟨_, hx⟩, for_tup (K := K) (a := a) (xs := xs) (fun i σ H' => ∃ (least : Int) (u : Option V), σ = [some (.int n), some (.ref a), some (.int least), u] ∧ H' = H ∧ chk n 0 ds = chk n least (ds.drop i)) ⟨0, none, rfl, rfl, rfl⟩ (fun i σ H' _ ⟨_, _, _, e, _⟩ => e ▸ hx) ?_ ?_⟩
      · rintro i x σ H' hi ⟨least, u, rfl, rfl, ec⟩
        obtain ⟨d, hd, hD⟩ := dpAll_at ht hi
        rw [drop_at hd] at ec
        refine ⟨x, rfl, x, tyN d, rfl, Ef.Dp.ty hD, tyN_in d, _, rfl, ?_⟩
        cases hb : (tyN d == "int") with
        | false =>
          rw [chk_no hb] at ec
          refine iteT ?_
          have q2 : Q (V.bl (chk n 0 ds)) H' := q
          rw [ec] at q2
          exact q2
        | true =>
          obtain ⟨z, rfl⟩ := tyN_int hb
          cases hD
          rw [chk_int] at ec
          refine iteF ?_
          refine ⟨_, rfl, _, rfl, _, _, rfl, rfl, _, rfl, ite2 (fun h1 => ?_) (fun h1 => ?_)⟩
          · have h2 : z < least := of_decide_eq_true h1
            rw [decide_eq_false (show ¬ least ≤ z by omega)] at ec
            have q2 : Q (V.bl (chk n 0 ds)) H' := q
            rw [ec] at q2
            exact q2
          · have h2 : ¬ z < least := fun y => h1 (decide_eq_true y)
            rw [decide_eq_true (show least ≤ z by omega), Bool.true_and] at ec
            refine ⟨_, rfl, _, rfl, _, _, rfl, rfl, _, rfl, ite2 (fun h3 => ?_) (fun h3 => ?_)⟩
            · have h4 : n ≤ z := of_decide_eq_true h3
              rw [decide_eq_false (show ¬ z < n by omega)] at ec
              have q2 : Q (V.bl (chk n 0 ds)) H' := q
              rw [ec] at q2
              exact q2
            · have h4 : ¬ n ≤ z := fun y => h3 (decide_eq_true y)
              rw [decide_eq_true (show z < n by omega), Bool.true_and] at ec
              exact ⟨_, rfl, _, _, rfl, rfl, z + 1, _, rfl, rfl, ec⟩
      · rintro σ H' ⟨least, u, rfl, rfl, ec⟩
        rw [← dpAll_len ht, List.drop_length] at ec
        have q2 : Q (V.bl (chk n 0 ds)) H' := q
        rw [ec] at q2
        exact q2
    | _ => exact iteT q
end
/-! ### outside -/
def subL (f : Nat → Bool) (n : Nat) : List Int := ((List.range n).filter f).map fun (i : Nat) => (i : Int)
theorem subL_succ (f : Nat → Bool) (n : Nat) : subL f (n + 1) = subL f n ++ (if f n then [(n : Int)] else []) := by
  unfold subL
  rw [List.range_succ, List.filter_append, List.map_append]
  congr 1
  cases h : f n with
  | true => rw [List.filter_cons_of_pos h]; rfl
  | false => rw [List.filter_cons_of_neg (by rw [h]; decide)]; rfl
theorem subL_congr {f g : Nat → Bool} {n : Nat} (h : ∀ i, i < n → f i = g i) : subL f n = subL g n := by
  unfold subL
  rw [List.filter_congr fun i hi => h i (List.mem_range.mp hi)]
theorem mem_subL {f : Nat → Bool} {n i : Nat} : (i : Int) ∈ subL f n ↔ i < n ∧ f i = true := by
  unfold subL
  rw [List.mem_map]
  constructor
  · rintro ⟨k, hk, e⟩
    have e' : k = i := by omega
    subst e'
    rw [List.mem_filter, List.mem_range] at hk
    exact hk
  · rintro ⟨h1, h2⟩
    exact ⟨i, List.mem_filter.mpr ⟨List.mem_range.mpr h1, h2⟩, rfl⟩
theorem subL_len (f : Nat → Bool) (n : Nat) : (subL f n).length ≤ n := by
  unfold subL
  rw [List.length_map]
  exact Nat.le_trans (List.length_filter_le _ _) (Nat.le_of_eq List.length_range)
theorem subL_lt {f : Nat → Bool} {n : Nat} : ∀ x ∈ subL f n, 0 ≤ x ∧ x < n := by
  intro x hx
  unfold subL at hx
  obtain ⟨k, hk, e⟩ := List.mem_map.mp hx
  have h1 := List.mem_range.mp (List.mem_filter.mp hk).1
  omega
/-- the other servers -/
def outL (n : Nat) (ns : List Int) : List Int := subL (fun i => !decide ((i : Int) ∈ ns)) n
theorem outL_sub (f : Nat → Bool) (n : Nat) : outL n (subL f n) = subL (fun i => !f i) n := by
  refine subL_congr fun i hi => ?_
  congr 1
  cases h : f i with
  | true => exact decide_eq_true (mem_subL.mpr ⟨hi, h⟩)
  | false => exact decide_eq_false fun z => by rw [(mem_subL.mp z).2] at h; cases h
theorem outL_out (f : Nat → Bool) (n : Nat) : outL n (outL n (subL f n)) = subL f n := by
  rw [outL_sub, outL_sub]
  exact subL_congr fun i _ => by cases f i <;> rfl
def spOut (K : PySem.W.Frag) : Sp := fun vs H Q _ => ∃ (n : Nat) (a : Addr) (ns : List Int), vs = [.int n, .ref a] ∧ SqT K H a (ns.map V.int) ∧ n ≤ 1000 ∧ ns.length ≤ 1000 ∧
  ∀ H' p, Same H H' → H p = none → H' p = some (.tup ((outL n ns).map V.int)) → Q (.ref p) H'
section
variable {P : Program} {w : World} {K : PySem.W.Frag} {mg : Str → Option Value} {base : Heap}
theorem ok_out (T : Txt K mg) {j : Nat} : FnOk P w K mg base CX0 (j + 1) T.fOut T.fdOut ["n", "members"] (spOut K) := by
  refine T.FOut.ok scOut (fun vs H Q E h => ?_) (fun cdv A outer s H vs Q E hr h => ?_)
  · obtain ⟨n, a, ns, rfl, _⟩ := h
    rfl
  · obtain ⟨n, a, ns, rfl, hS, hn, hl, q⟩ := h
    refine ⟨_, pss_cons (ps_set (i := 2) scOut.nd rfl (.inl rfl) (pe_callTy (cr_setT rfl) (by rfl) T.n_set (by decide +kernel) (pa_cons (pv 1) pa_nil)))
      (pss_cons (ps_set (i := 3) scOut.nd rfl (.inl rfl) (pe_lst pa_nil))
      (pss_cons (ps_for PassesOwn.never rfl (pi_range1 (by rfl) T.n_range (pa_cons (pv 0) pa_nil)) (pg_name (i := 4) scOut.nd rfl (.inl rfl))
        (pss_one (ps_if (pt_cmpR or_snotin (pv 4) (pv 2) (by rfl)) (pss_one (ps_expr (pe_bm PySem.F.plainAttrs_list PySem.F.slot_list_append PySem.F.type_list_append mt_append (pv 3) (pa_cons (pv 4) pa_nil)))) pss_nil)))
      (pss_one (ps_ret (pe_callTy call_tuple_of (by rfl) T.n_tuple (by decide +kernel) (pa_cons (pv 3) pa_nil)))))), ?_⟩
    refine ⟨.ref a, rfl, a, ns, rfl, hS, hl, fun t c nt => ?_⟩
    refine ⟨Nat.zero_le _, fun o no => ?_⟩
    have s1 := same_new (o := SetO w t (fun j => decide (j ∈ ns)) c) nt
    have fo : H o = none := s1.free no
    have nto : t ≠ o := ne_of_none upd_same no
    refine ⟨_, rfl, (n : Int), rfl, by omega, by omega, ?_⟩
    refine for_range (lo := 0) (n := (n : Int).toNat) (fun i σ H2 => ∃ v, σ = [some (.int n), some (.ref a), some (.ref t), some (.ref o), v] ∧ Same H H2 ∧ H2 t = some (SetO w t (fun j => decide (j ∈ ns)) c) ∧ H2 o = some (.lst ((subL (fun i => !decide ((i : Int) ∈ ns)) i).map V.int))) ?_ ?_ ?_
    · exact ⟨none, rfl, s1.trans (same_new no), by rw [upd_ne nto]; exact upd_same, upd_same⟩
    · rintro i σ H2 hi ⟨v, rfl, s2, ht, ho⟩
      rw [Int.zero_add]
      refine ⟨_, rfl, _, rfl, (i : Int), t, _, c, rfl, rfl, ht, _, rfl, ?_⟩
      by_cases hm : (i : Int) ∈ ns
      · rw [decide_eq_true hm]
        refine iteF ⟨_, rfl, s2, ht, ?_⟩
        rw [subL_succ, if_neg (by rw [decide_eq_true hm]; decide), List.append_nil]
        exact ho
      · rw [decide_eq_false hm]
        refine iteT ?_
        refine ⟨.ref o, rfl, .inl ⟨rfl, _, SqL.of ho⟩, _, rfl, o, _, _, rfl, rfl, ho, ?_, ?_⟩
        · have h8 := subL_len (fun i => !decide ((i : Int) ∈ ns)) i
          rw [List.length_map]
          exact small1000 (by omega)
        · refine ⟨_, rfl, keep_upd s2 fo, by rw [upd_ne nto]; exact ht, ?_⟩
          rw [upd_same, subL_succ, if_pos (by rw [decide_eq_false hm]; rfl), List.map_append]
          rfl
    · rintro σ H2 ⟨v, rfl, s2, ht, ho⟩
      rw [Int.toNat_natCast] at ho
      exact ⟨.ref o, rfl, o, _, rfl, .inl ⟨SqL.of ho, fun p np => q _ p (s2.trans (same_new np)) (s2.free np) upd_same⟩⟩
end
/-! ### joined -/
def spJoined (K : PySem.W.Frag) : Sp := fun vs H Q _ => ∃ (a : Addr) (ms : List Nat) (x : Nat), vs = [.ref a, .int x] ∧ SqT K H a (setV ms) ∧ ms.length ≤ 60 ∧
  ∀ H' t, Same H H' → H t = none → H' t = some (.tup (setV (srt (ms ++ [x])))) → Q (.ref t) H'
section
variable {P : Program} {w : World} {K : PySem.W.Frag} {mg : Str → Option Value} {base : Heap}
theorem ok_joined (T : Txt K mg) {j : Nat} : FnOk P w K mg base CX0 (j + 1) T.fJoined T.fdJoined ["members", "server"] (spJoined K) := by
  refine T.FJoined.ok scJoined (fun vs H Q E h => ?_) (fun cdv A outer s H vs Q E hr h => ?_)
  · obtain ⟨a, ms, x, rfl, _⟩ := h
    rfl
  · obtain ⟨a, ms, x, rfl, hA, hl, q⟩ := h
    refine ⟨_, pss_one (ps_ret (pe_callTy (call_tupleK K) (by rfl) T.n_tuple (by decide +kernel) (pa_cons (pe_callB (cr_sortTI K) (by rfl) T.n_sorted (by decide +kernel) (pa_cons (pe_op (op_catS K) (pv 0) (pe_tup (pa_cons (pv 1) pa_nil))) pa_nil)) pa_nil))), ?_⟩
    refine ⟨.ref a, rfl, _, rfl, by show 1 ≤ sizeLine; decide, fun e ne => ?_⟩
    have s1 := same_new (o := .tup [V.int (x : Int)]) ne
    refine ⟨a, e, setV ms, [V.int (x : Int)], rfl, rfl, Same.seqT s1 hA, SqT.of upd_same, by rw [setV_len, sizeLine_eq]; show ms.length + 1 ≤ _; omega, fun p H2 s2 hP => ?_⟩
    have hP2 : SqT K H2 p ((intL (ms ++ [x])).map V.int) := by
      rw [← setV_ints, setV_app]
      exact hP
    refine ⟨p, intL (ms ++ [x]), rfl, .inr hP2, by rw [List.length_map, List.length_append]; show ms.length + 1 < 64; omega, fun ns' q0 pm srtd nq0 => ?_⟩
    obtain ⟨ks, rfl, pk⟩ := ints_back pm
    rw [← setV_ints]
    obtain rfl : ks = srt (ms ++ [x]) := srt_of pk (le_back srtd)
    refine ⟨q0, _, rfl, .inl ⟨SqL.of upd_same, fun t nt => ?_⟩⟩
    have s3 := (s1.trans s2).trans (same_new (o := .lst (setV (srt (ms ++ [x])))) nq0)
    exact q _ t (s3.trans (same_new nt)) (s3.free nt) upd_same
end
/-! ### all sets of a size among ascending servers -/
/-- pairs of a tuple of servers and a number -/
theorem RowsL.updD {K : PySem.W.Frag} {H : Hp} {D : Addr} {ts ys : List V} {rows : List (List Nat)} {o : HO} (h : RowsL K H ts rows) (hD : H D = some (.lst ys)) : RowsL K (upd H D o) ts rows := PySem.Paired.mono (fun v ms ⟨t, e, z⟩ => ⟨t, e, SqT_updL z hD⟩) h
def BegL (K : PySem.W.Frag) (H : Hp) (us : List V) (bs : List (List Nat × Nat)) : Prop := PySem.Paired (fun v (b : List Nat × Nat) => ∃ u t, v = V.ref u ∧ SqT K H u [.ref t, .int (b.2 : Int)] ∧ SqT K H t (setV b.1)) us bs
theorem BegL.same {K : PySem.W.Frag} {H H' : Hp} {us : List V} {bs : List (List Nat × Nat)} (s : Same H H') (h : BegL K H us bs) : BegL K H' us bs := PySem.Paired.mono (fun v b ⟨u, t, e, z1, z2⟩ => ⟨u, t, e, Same.seqT s z1, Same.seqT s z2⟩) h
theorem BegL.updL {K : PySem.W.Frag} {H : Hp} {D : Addr} {us ys : List V} {bs : List (List Nat × Nat)} {o : HO} (h : BegL K H us bs) (hD : H D = some (.lst ys)) : BegL K (upd H D o) us bs := PySem.Paired.mono (fun v b ⟨u, t, e, z1, z2⟩ => ⟨u, t, e, SqT_updL z1 hD, SqT_updL z2 hD⟩) h
theorem BegL.app {K : PySem.W.Frag} {H : Hp} {us vs : List V} {bs cs : List (List Nat × Nat)} (h : BegL K H us bs) (k : BegL K H vs cs) : BegL K H (us ++ vs) (bs ++ cs) := paired_app h k
theorem BegL.len {K : PySem.W.Frag} {H : Hp} {us : List V} {bs : List (List Nat × Nat)} (h : BegL K H us bs) : us.length = bs.length := PySem.Paired.length h
theorem paired_get {α β : Type} {R : α → β → Prop} {xs : List α} {ys : List β} (h : PySem.Paired R xs ys) : ∀ {i : Nat} {x : α}, xs[i]? = some x → ∃ y, ys[i]? = some y ∧ R x y := by
  induction h with
  | nil =>
    intro i x z
    cases z
  | cons a _ ih =>
    intro i x z
    cases i with
    | zero =>
      obtain rfl := Option.some.inj z
      exact ⟨_, rfl, a⟩
    | succ i => exact ih z
theorem rgc_down (k : Nat) (h : k < 2 ^ 62) : RgC (k : Int) 0 (-1) k := by
  have := RgC.neg (i := (k : Int)) (j := 0) (by omega) (by omega) (by decide) (by decide)
  rw [Int.sub_zero, Int.toNat_natCast] at this
  exact this
/-! ### sets_among -/
def spAmong (K : PySem.W.Frag) : Sp := fun vs H Q _ => ∃ (a : Addr) (ls : List Nat) (k : Nat), vs = [.ref a, .int k] ∧ SqT K H a (setV ls) ∧ ls.length ≤ 60 ∧ k ≤ 60 ∧ (combs ls k).length ≤ 100000 ∧
  ∀ H' p ts, Same H H' → H p = none → H' p = some (.lst ts) → RowsL K H' ts (combs ls k) → Q (.ref p) H'
section
variable {P : Program} {w : World} {K : PySem.W.Frag} {mg : Str → Option Value} {base : Heap}
theorem ok_among (T : Txt K mg) {j : Nat} : FnOk P w K mg base CX0 (j + 1) T.fAmong T.fdAmong ["servers", "size"] (spAmong K) := by
  refine T.FAmong.ok scAmong (fun vs H Q E h => ?_) (fun cdv A outer s H vs Q E hr h => ?_)
  · obtain ⟨a, ls, k, rfl, _⟩ := h
    rfl
  · obtain ⟨a, ls, k, rfl, hA, hl, hk, hb, q⟩ := h
    have hb1 : ∀ t, t ≤ k → (begB ls k t).length ≤ 100001 := fun t ht => by
      have := beg_len ls k t ht
      omega
    refine ⟨_, pss_cons (ps_set (i := 2) scAmong.nd rfl (.inl rfl) (pe_lst (pa_cons (pe_tup (pa_cons (pe_tup pa_nil) (pa_cons pe_int pa_nil))) pa_nil))) (pss_cons (ps_for PassesOwn.never rfl (pi_range3 (by rfl) T.n_range (pa_cons (pv 1) (pa_cons pe_int (pa_cons (pe_un un_neg pe_int) pa_nil)))) (pg_name (i := 3) scAmong.nd rfl (.inl rfl)) (pss_cons (ps_set (i := 4) scAmong.nd rfl (.inl rfl) (pe_lst pa_nil)) (pss_cons (ps_for PassesOwn.never rfl (pi_list (pv 2)) (pg_tup rfl (pgs_cons (pg_name (i := 5) scAmong.nd rfl (.inl rfl)) (pgs_cons (pg_name (i := 6) scAmong.nd rfl (.inl rfl)) pgs_nil))) (pss_one (ps_for PassesOwn.never rfl (pi_range2 (by rfl) T.n_range (pa_cons (pv 6) (pa_cons (pe_op op_add (pe_op op_sub (pe_callB (call_lenK K) (by rfl) T.n_len PySem.boot_len (pa_cons (pv 0) pa_nil)) (pv 3)) pe_int) pa_nil))) (pg_name (i := 7) scAmong.nd rfl (.inl rfl)) (pss_one (ps_expr (pe_bm PySem.F.plainAttrs_list PySem.F.slot_list_append PySem.F.type_list_append mt_append (pv 4) (pa_cons (pe_tup (pa_cons (pe_op (op_catS K) (pv 5) (pe_tup (pa_cons (pe_ix (ix_tupK K) (pv 0) (pv 7) (fun _ _ => rfl)) pa_nil))) (pa_cons (pe_op op_add (pv 7) pe_int) pa_nil))) pa_nil))))))) (pss_one (ps_set (i := 2) scAmong.nd rfl (.inl rfl) (pv 4)))))) (pss_one (ps_ret (pe_lc (own := [("members", 5), ("start", 6)]) (g := (gTup K 2 (gCons (gName 5) (gCons (gName 6) gNil)))) (tt := tYes) rfl scAmong.nd (pi_list (pv 2)) (blkOk_by (own := [("members", 5), ("start", 6)]) (N := NAmong) (sc := defScope sAmong) (by decide +kernel)) (fun _ _ _ _ _ => (pg_tup rfl (pgs_cons (pg_name (i := 5) scAmong.nd rfl (.inl rfl)) (pgs_cons (pg_name (i := 6) scAmong.nd rfl (.inl rfl)) pgs_nil)))) (fun _ _ _ _ _ => pts_nil) (fun _ _ _ _ _ => (pv 5)))))), ?_⟩
    refine ⟨by show 0 ≤ sizeLine; decide, fun t0 nt0 => ⟨by show 2 ≤ sizeLine; decide, fun u0 nu0 => ⟨by show 1 ≤ sizeLine; decide, fun p0 np0 => ?_⟩⟩⟩
    have s0 := ((same_new (o := .tup []) nt0).trans (same_new (o := .tup [V.ref t0, V.int 0]) nu0)).trans (same_new (o := .lst [V.ref u0]) np0)
    have f0 : H p0 = none := ((same_new (o := .tup []) nt0).trans (same_new (o := .tup [V.ref t0, V.int 0]) nu0)).free np0
    have b0 : BegL K (upd (upd (upd H t0 (.tup [])) u0 (.tup [V.ref t0, V.int 0])) p0 (.lst [V.ref u0])) [.ref u0] (begB ls k 0) ∧ (upd (upd (upd H t0 (.tup [])) u0 (.tup [V.ref t0, V.int 0])) p0 (.lst [V.ref u0])) p0 = some (.lst [V.ref u0]) := ⟨.cons ⟨u0, t0, rfl, SqT.of (same_new np0 _ _ upd_same), SqT.of (same_new np0 _ _ (same_new nu0 _ _ upd_same))⟩ .nil, upd_same⟩
    dsimp only [gName]
    generalize upd (upd (upd H t0 (.tup [])) u0 (.tup [V.ref t0, V.int 0])) p0 (.lst [V.ref u0]) = H0 at s0 b0
    have hp0 : H0 p0 = some (.lst [V.ref u0]) := b0.2
    replace b0 := b0.1
    refine ⟨_, rfl, 1, rfl, (k : Int), 0, -1, k, rfl, rgc_down k (by omega), ?_⟩
    refine for_rangeC (lo := (k : Int)) (c := -1) (n := k) (fun i σ H2 => ∃ (p : Addr) (us : List V) (v3 v4 v5 v6 v7 : Option V), σ = [some (.ref a), some (.int k), some (.ref p), v3, v4, v5, v6, v7] ∧ Same H H2 ∧ H p = none ∧ H2 p = some (.lst us) ∧ BegL K H2 us (begB ls k i)) ⟨p0, [.ref u0], none, none, none, none, none, rfl, s0, f0, hp0, b0⟩ ?_ ?_
    · rintro i σ H2 hi ⟨p, us, v3, v4, v5, v6, v7, rfl, s2, np, hp, r2⟩
      rw [show (k : Int) + ((i : Nat) : Int) * -1 = ((k - i : Nat) : Int) by omega]
      have b1 := hb1 i (by omega)
      have b2 := hb1 (i + 1) (by omega)
      refine ⟨Nat.zero_le _, fun pl npl => ?_⟩
      have sl := same_new (o := .lst []) npl
      refine ⟨.ref p, rfl, p, rfl, ⟨_, SqL.of (sl _ _ hp)⟩, for_list (K := K) (a := p) (xs := us) (fun z σ H3 => ∃ (acc : List V) (v5 v6 v7 : Option V), σ = [some (.ref a), some (.int k), some (.ref p), some (.int ((k - i : Nat) : Int)), some (.ref pl), v5, v6, v7] ∧ Same H2 H3 ∧ H3 pl = some (.lst acc) ∧ BegL K H3 acc (((begB ls k i).take z).flatMap (stepB ls (k - i)))) ⟨[], v5, v6, v7, rfl, sl, upd_same, .nil⟩ (fun z σ H3 _ ⟨_, _, _, _, _, s3, _⟩ => SqL.of (s3 _ _ hp)) ?_ ?_⟩
      · rintro z v σ H3 hz ⟨acc, v5, v6, v7, rfl, s3, hA3, r3⟩
        obtain ⟨⟨ms, st⟩, hms, u, t, rfl, hU, hT⟩ := paired_get (r2.same s3) hz
        obtain ⟨g1, g2⟩ := beg_good ls k i _ (List.mem_of_getElem? hms)
        have fs := fm_step (f := stepB ls (k - i)) hms
        have fb := fm_le (stepB ls (k - i)) (begB ls k i) (z + 1)
        rw [fs, List.length_append] at fb
        have fb2 : ((begB ls k i).flatMap (stepB ls (k - i))).length ≤ 100001 := b2
        refine ⟨u, _, rfl, hU, rfl, _, _, rfl, _, _, rfl, rfl, ?_⟩
        dsimp only at g1 g2 hU hT
        have hA4 := Same.seqT (s2.trans s3) hA
        have en : (((setV ls).length : Int) - ((k - i : Nat) : Int) + 1 - (st : Int)).toNat = ls.length + 1 - (k - i) - st := by
          rw [setV_len]
          omega
        have sl2 : (stepB ls (k - i) (ms, st)).length = ls.length + 1 - (k - i) - st := by
          unfold stepB
          rw [List.length_map, List.length_range']
        refine ⟨_, rfl, .ref a, rfl, a, _, rfl, .inr hA4, _, rfl, _, _, rfl, rfl, _, _, rfl, rfl, (st : Int), _, rfl, ⟨by omega, by omega, by rw [setV_len]; omega, by rw [setV_len]; omega⟩, ?_⟩
        refine for_range (lo := (st : Int)) (n := (((setV ls).length : Int) - ((k - i : Nat) : Int) + 1 - (st : Int)).toNat) (fun y σ H4 => ∃ (acc' : List V) (v7 : Option V), σ = [some (.ref a), some (.int k), some (.ref p), some (.int ((k - i : Nat) : Int)), some (.ref pl), some (.ref t), some (.int st), v7] ∧ Same H2 H4 ∧ Same (upd H3 pl (.lst [])) (upd H4 pl (.lst [])) ∧ H4 pl = some (.lst acc') ∧ BegL K H4 acc' (((begB ls k i).take z).flatMap (stepB ls (k - i)) ++ (List.range' st y).map fun x => (ms ++ [ls.getD x 0], x + 1))) ⟨acc, v7, rfl, s3, Same.refl _, hA3, by rw [List.range'_zero, List.map_nil, List.append_nil]; exact r3⟩ ?_ ?_
        · rintro y σ H4 hy ⟨acc', v7, rfl, s4, s34, hA4', r4⟩
          rw [en] at hy
          rw [show (st : Int) + (y : Int) = ((st + y : Nat) : Int) by omega]
          have hx : ls[st + y]? = some (ls.getD (st + y) 0) := by
            rw [List.getD_eq_getElem?_getD, List.getElem?_eq_getElem (show st + y < ls.length by omega)]
            rfl
          have hT4 : SqT K H4 t (setV ms) := by
            have h1 : SqT K (upd H3 pl (.lst [])) t (setV ms) := SqT_updL hT hA3
            have h2 := Same.seqT s34 h1
            have h3 : SqT K (upd (upd H4 pl (.lst [])) pl (.lst acc')) t (setV ms) := SqT_updL h2 upd_same
            rw [upd_upd] at h3
            have e : upd H4 pl (.lst acc') = H4 := by
              funext b
              unfold upd
              split
              · rename_i e
                rw [e, hA4']
              · rfl
            rw [e] at h3
            exact h3
          have al := r4.len
          rw [List.length_append, List.length_map, List.length_range'] at al
          refine ⟨.ref pl, rfl, .inl ⟨rfl, _, SqL.of hA4'⟩, .ref t, rfl, .ref a, rfl, _, rfl, a, _, _, _, rfl, rfl, Same.seqT (s2.trans s4) hA, atI_nat (setV_at hx), by show 1 ≤ sizeLine; decide, fun t1 nt1 => ?_⟩
          have s5 := same_new (o := .tup [V.int ((ls.getD (st + y) 0 : Nat) : Int)]) nt1
          refine ⟨t, t1, _, _, rfl, rfl, Same.seqT s5 hT4, SqT.of upd_same, ?_, fun t2 H5 s6 hT2 => ?_⟩
          · rw [setV_len, g1]
            exact small1000 (show i ≤ 1000 by omega)
          refine ⟨_, rfl, _, _, rfl, rfl, by show 2 ≤ sizeLine; decide, fun u2 nu2 => ?_⟩
          have s7 := same_new (o := .tup [V.ref t2, V.int (((st + y : Nat) : Int) + 1)]) nu2
          have s57 := (s5.trans s6).trans s7
          have hA7 := s57 _ _ hA4'
          have hu7 : (upd H5 u2 (.tup [V.ref t2, V.int (((st + y : Nat) : Int) + 1)])) u2 = some (.tup [V.ref t2, V.int (((st + y : Nat) : Int) + 1)]) := upd_same
          have hT7 := Same.seqT s7 hT2
          have r7 := r4.same s57
          dsimp only
          generalize upd H5 u2 (.tup [V.ref t2, V.int (((st + y : Nat) : Int) + 1)]) = H7 at s7 s57 hA7 hu7 hT7 r7 ⊢
          refine ⟨pl, _, _, rfl, rfl, hA7, ?_, acc' ++ [.ref u2], some (.int ((st + y : Nat) : Int)), rfl, keep_upd (s4.trans s57) npl, ?_, upd_same, ?_⟩
          · rw [sizeLine_eq]
            omega
          · rw [upd_upd]
            intro b o e
            by_cases hb2 : b = pl
            · rw [hb2, upd_same] at e ⊢
              exact e
            · rw [upd_ne hb2]
              have e2 := s34 b o e
              rw [upd_ne hb2] at e2
              exact s57 b o e2
          · rw [List.range'_1_concat, List.map_append, ← List.append_assoc]
            refine BegL.app (r7.updL hA7) (.cons ⟨u2, t2, rfl, SqT_updL (SqT.of hu7) hA7, SqT_updL ?_ hA7⟩ .nil)
            rw [setV_app]
            exact hT7
        · rintro σ H4 ⟨acc', v7, rfl, s4, s34, hA4', r4⟩
          refine ⟨acc', _, _, _, rfl, s4, hA4', ?_⟩
          rw [fs]
          rw [en] at r4
          exact r4
      · rintro σ H3 ⟨acc, v5, v6, v7, rfl, s3, hA3, r3⟩
        rw [r2.len, List.take_length] at r3
        exact ⟨.ref pl, rfl, pl, acc, _, _, _, _, _, rfl, s2.trans s3, s2.free npl, hA3, r3⟩
    · rintro σ H2 ⟨p, us, v3, v4, v5, v6, v7, rfl, s2, np, hp, r2⟩
      have e := beg_end ls k
      have bl := hb1 k (Nat.le_refl _)
      refine ⟨.ref p, rfl, p, rfl, ⟨_, SqL.of hp⟩, fun D nD => ?_⟩
      refine lc_list (K := K) (a := p) (xs := us) (fun z H3 => ∃ ts, Same H2 H3 ∧ H3 D = some (.lst ts) ∧ RowsL K H3 ts (((begB ls k k).take z).map (·.1))) ⟨[], same_new nD, upd_same, .nil⟩ (fun _ H3 _ ⟨_, s3, _⟩ => SqL.of (s3 _ _ hp)) ?_ ?_
      · rintro z v H3 hz ⟨ts, s3, hD, r3⟩
        obtain ⟨⟨ms, st⟩, hms, u, t, rfl, hU, hT⟩ := paired_get (r2.same s3) hz
        dsimp only at hU hT
        refine ⟨u, _, rfl, hU, rfl, _, _, rfl, _, _, rfl, rfl, ?_⟩
        have tl := r3.len
        rw [List.length_map, List.length_take] at tl
        refine ⟨rfl, .ref t, rfl, ts, hD, ?_, ts ++ [.ref t], keep_upd s3 nD, upd_same, ?_⟩
        · rw [sizeLine_eq]
          omega
        · rw [take_snoc hms, List.map_append]
          exact RowsL.app (r3.updD hD) (.cons ⟨t, rfl, SqT_updL hT hD⟩ .nil)
      · rintro H3 ⟨ts, s3, hD, r3⟩
        rw [r2.len, List.take_length, e] at r3
        exact q _ D ts (s2.trans s3) (s2.free nD) hD r3
end
/-! ### level_widths -/
def spWid : Sp := fun vs H Q _ => ∃ n d c : Nat, vs = [.int n, .int d, .int c] ∧ n ≤ 60 ∧ 1 ≤ n ∧ d ≤ n ∧ ∀ H' p, Same H H' → H p = none → H' p = some (.lst (setV (wdsL n c d))) → Q (.ref p) H'
section
variable {P : Program} {w : World} {K : PySem.W.Frag} {mg : Str → Option Value} {base : Heap}
theorem ok_wid (T : Txt K mg) {j : Nat} : FnOk P w K mg base CX0 (j + 1) T.fWid T.fdWid ["n", "depth", "count"] spWid := by
  refine T.FWid.ok scWid (fun vs H Q E h => ?_) (fun cdv A outer s H vs Q E hr h => ?_)
  · obtain ⟨n, d, c, rfl, _⟩ := h
    rfl
  · obtain ⟨n, d, c, rfl, hn, h1, hd, q⟩ := h
    refine ⟨_, pss_cons (ps_set (i := 3) scWid.nd rfl (.inl rfl) (pe_lst pa_nil)) (pss_cons (ps_set (i := 4) scWid.nd rfl (.inl rfl) (pv 0)) (pss_cons (ps_for PassesOwn.never rfl (pi_range1 (by rfl) T.n_range (pa_cons (pv 1) pa_nil)) (pg_name (i := 5) scWid.nd rfl (.inl rfl)) (pss_cons (ps_expr (pe_bm PySem.F.plainAttrs_list PySem.F.slot_list_append PySem.F.type_list_append mt_append (pv 3) (pa_cons (pe_op op_fdivW (pv 2) (pv 4)) pa_nil))) (pss_one (ps_set (i := 4) scWid.nd rfl (.inl rfl) (pe_op op_fdivW (pe_op op_mul (pv 4) (pe_op op_sub (pe_op op_sub (pv 0) pe_int) (pv 5))) (pe_op op_add (pv 5) pe_int)))))) (pss_one (ps_ret (pv 3))))), ?_⟩
    refine ⟨Nat.zero_le _, fun pw nw => ?_⟩
    refine ⟨_, rfl, _, rfl, (d : Int), rfl, by omega, by omega, ?_⟩
    refine for_range (lo := 0) (n := (d : Int).toNat) (fun i σ H2 => ∃ u, σ = [some (.int n), some (.int d), some (.int c), some (.ref pw), some (.int ((n * C (n - 1) i : Nat) : Int)), u] ∧ Same H H2 ∧ H2 pw = some (.lst (setV (wdsL n c i)))) ⟨none, by rw [C_zero, Nat.mul_one]; rfl, same_new nw, upd_same⟩ ?_ ?_
    · rintro i σ H2 hi ⟨u, rfl, s2, hW⟩
      have hid : i < n := by omega
      have e0 := edge_pos hid
      have e1 := edge_lt (d := i) hn
      rw [Int.zero_add]
      refine ⟨.ref pw, rfl, .inl ⟨rfl, _, SqL.of hW⟩, _, rfl, _, rfl, _, _, rfl, rfl, wide_div (b := 64) (by omega) (by omega) (by decide) (by decide), pw, _, _, rfl, rfl, hW, ?_, ?_⟩
      · rw [setV_len, wds_len]
        exact small1000 (by omega)
      refine ⟨_, rfl, _, rfl, _, _, rfl, rfl, _, rfl, _, _, rfl, rfl, _, _, rfl, rfl, .inl ⟨by omega, by omega⟩, _, rfl, _, _, rfl, rfl, _, _, rfl, rfl, wide_div (b := 64) (by omega) (by omega) (by decide) (by decide), ?_⟩
      refine ⟨some (.int (i : Int)), ?_, keep_upd s2 nw, ?_⟩
      · have es : ((n * C (n - 1) (i + 1) : Nat) : Int) = ((n * C (n - 1) i : Nat) : Int) * ((n : Int) - 1 - (i : Int)) / ((i : Int) + 1) := by
          rw [← edge_step hid, Int.natCast_ediv, Int.natCast_mul (n * C (n - 1) i), show ((n - 1 - i : Nat) : Int) = (n : Int) - 1 - (i : Int) by omega]
          rfl
        rw [es]
        rfl
      · rw [upd_same, wds_step, setV_app]
        show _ = some (HO.lst (_ ++ [V.int ((c / (n * C (n - 1) i) : Nat) : Int)]))
        rw [Int.natCast_ediv]
    · rintro σ H2 ⟨u, rfl, s2, hW⟩
      rw [Int.toNat_natCast] at hW
      exact ⟨_, rfl, q _ pw s2 nw hW⟩
end
/-! ### follow, path, list_at, place_at -/
def spFollow (K : PySem.W.Frag) : Sp := fun vs H Q _ => ∃ (n c : Nat) (a b : Addr) (ss L : List Nat) (r : Nat), vs = [.ref a, .ref b, .int r] ∧ c < 2 ^ 500 ∧ SqL K H a (setV (ss.map (wd n c))) ∧ ss.length ≤ 60 ∧ (SqL K H b (setV L) ∨ SqT K H b (setV L)) ∧ L.length ≤ 60 ∧ (∀ x ∈ L, x < 60) ∧ FolOk n c ss L r ∧
  ∀ H' u, Same H H' → PairAt H H' u (fol n c ss L r).1 (fol n c ss L r).2 → Q (.ref u) H'
section
variable {P : Program} {w : World} {K : PySem.W.Frag} {mg : Str → Option Value} {base : Heap}
theorem ok_follow (T : Txt K mg) {j : Nat} : FnOk P w K mg base CX0 (j + 3) T.fFollow T.fdFollow ["widths", "servers", "rest"] (spFollow K) := by
  refine T.FFollow.ok scFollow (fun vs H Q E h => ?_) (fun cdv A outer s H vs Q E hr h => ?_)
  · obtain ⟨n, c, a, b, ss, L, r, rfl, _⟩ := h
    rfl
  · obtain ⟨n, c, a, b, ss, L, r, rfl, hc, hS, hsl, hL, hLl, hLx, ok, q⟩ := h
    refine ⟨_, pss_cons (ps_set (i := 3) scFollow.nd rfl (.inl rfl) (pe_callTy (call_listK K) (by rfl) T.n_list (by decide +kernel) (pa_cons (pv 1) pa_nil))) (pss_cons (ps_set (i := 4) scFollow.nd rfl (.inl rfl) (pe_lst pa_nil)) (pss_cons (ps_for PassesOwn.never rfl (pi_list (pv 0)) (pg_name (i := 5) scFollow.nd rfl (.inl rfl)) (pss_cons (ps_set (i := 6) scFollow.nd rfl (.inl rfl) (pe_op op_fdivW (pv 2) (pv 5))) (pss_cons (ps_set (i := 7) scFollow.nd rfl (.inl rfl) (pe_bm PySem.F.plainAttrs_list PySem.F.slot_list_pop PySem.F.type_list_pop mt_popAt (pv 3) (pa_cons (pv 6) pa_nil))) (pss_cons (ps_expr (pe_bm PySem.F.plainAttrs_list PySem.F.slot_list_append PySem.F.type_list_append mt_append (pv 4) (pa_cons (pv 7) pa_nil))) (pss_one (ps_aug (i := 2) scFollow.nd rfl (.inl rfl) (pe_op op_mul (pv 5) (pe_op op_sub (pe_op op_sub (pv 7) (pv 6)) (pv 6))) ip_add)))))) (pss_one (ps_ret (pe_tup (pa_cons (pe_callTy (call_tupleK K) (by rfl) T.n_tuple (by decide +kernel) (pa_cons (pv 4) pa_nil)) (pa_cons (pv 2) pa_nil))))))), ?_⟩
    refine ⟨.ref b, rfl, b, _, rfl, hL, fun pl nl => ?_⟩
    refine ⟨Nat.zero_le _, fun pt nt => ?_⟩
    have npt : pt ≠ pl := fun z => by
      rw [z, upd_same] at nt
      cases nt
    have ft : H pt = none := (same_new nl).free nt
    refine ⟨.ref a, rfl, a, rfl, ⟨_, Same.seq (same_new nt) (Same.seq (same_new nl) hS)⟩, for_list (K := K) (a := a) (xs := setV (ss.map (wd n c))) (fun i σ H2 => ∃ (pre M : List Nat) (x : Nat) (v8 v9 v10 : Option V), σ = [some (.ref a), some (.ref b), some (.int (x : Int)), some (.ref pl), some (.ref pt), v8, v9, v10] ∧ Same H H2 ∧ H2 pl = some (.lst (setV M)) ∧ H2 pt = some (.lst (setV pre)) ∧ M.length ≤ 60 ∧ pre.length = i ∧ (∀ x ∈ M, x < 60) ∧ FolOk n c (ss.drop i) M x ∧ fol n c ss L r = (pre ++ (fol n c (ss.drop i) M x).1, (fol n c (ss.drop i) M x).2)) ?_ ?_ ?_ ?_⟩
    · refine ⟨[], L, r, none, none, none, rfl, (same_new nl).trans (same_new nt), ?_, upd_same, hLl, rfl, hLx, ok, rfl⟩
      rw [upd_ne npt.symm]
      exact upd_same
    · rintro i σ H2 hi ⟨pre, M, x, v8, v9, v10, rfl, s2, _⟩
      exact s2.seq hS
    · rintro i z σ H2 hz ⟨pre, M, x, v8, v9, v10, rfl, s2, hM, hP, hMl, hpl, hMx, okk, hf⟩
      have hil : i < ss.length := by
        have := (List.getElem?_eq_some_iff.mp hz).1
        rw [setV_len, List.length_map] at this
        exact this
      obtain rfl : z = V.int (wd n c ss[i] : Nat) := by
        rw [setV_at (m := wd n c ss[i]) (by rw [List.getElem?_map, List.getElem?_eq_getElem hil]; rfl)] at hz
        exact (Option.some.inj hz).symm
      rw [List.drop_eq_getElem_cons hil] at okk hf
      generalize ss[i] = sz at okk hf
      rw [fol_cons] at hf
      obtain ⟨w0, hix, hge, okk2⟩ := okk
      have wc := wd_le n c sz
      have hm : M.getD (x / wd n c sz) 0 < 60 := hMx _ (List.mem_of_getElem? (getD_of hix))
      have hdm := Nat.div_add_mod x (wd n c sz)
      refine ⟨_, rfl, _, rfl, _, _, rfl, rfl, wide_div (b := 500) (Int.ofNat_lt.mpr w0) (Nat.lt_of_le_of_lt wc hc) (by decide) (by decide), ?_⟩
      dsimp only [gName]
      rw [← Int.natCast_ediv]
      have hM2 := getD_of hix
      generalize x / wd n c sz = ix at hix hge okk2 hf hm hM2 hdm ⊢
      generalize M.getD ix 0 = sv at hge okk2 hf hm hM2
      refine ⟨.ref pl, rfl, .inl ⟨rfl, _, SqL.of hM⟩, _, rfl, pl, _, _, _, _, rfl, rfl, hM, by omega, by omega, seq_at (by rw [setV_len]; exact hix), setV_at hM2, ?_⟩
      rw [setV_erase]
      have hpt3 : (upd H2 pl (.lst (setV (M.eraseIdx ix)))) pt = some (.lst (setV pre)) := by
        rw [upd_ne npt]
        exact hP
      refine ⟨.ref pt, rfl, .inl ⟨rfl, _, SqL.of hpt3⟩, _, rfl, pt, _, _, rfl, rfl, hpt3, ?_, ?_⟩
      · rw [setV_len]
        have := hil
        exact small1000 (by omega)
      refine ⟨_, rfl, _, rfl, _, rfl, _, rfl, _, _, rfl, rfl, _, rfl, _, _, rfl, rfl, _, _, rfl, rfl, .inr ⟨by omega, by omega⟩, _, _, rfl, rfl, ?_⟩
      refine ⟨pre ++ [sv], M.eraseIdx ix, wd n c sz * (sv - ix) + x % wd n c sz, some (.int (wd n c sz : Nat)), some (.int (ix : Int)), some (.int (sv : Int)), ?_, ?_, ?_, ?_, ?_, ?_, ?_, okk2, ?_⟩
      · have e9 : ((wd n c sz * (sv - ix) + x % wd n c sz : Nat) : Int) = (x : Int) + (wd n c sz : Int) * ((sv : Int) - (ix : Int) - (ix : Int)) := by
          have e8 : (x : Int) = (wd n c sz : Int) * (ix : Int) + ((x % wd n c sz : Nat) : Int) := by
            rw [← Int.natCast_mul, ← Int.natCast_add, hdm]
          rw [Int.natCast_add, Int.natCast_mul, Int.natCast_sub hge]
          simp only [Int.mul_sub]
          omega
        rw [e9]
        rfl
      · exact keep_upd (keep_upd s2 nl) ft
      · rw [upd_ne npt.symm]
        exact upd_same
      · rw [upd_same, setV_app]
        rfl
      · rw [List.length_eraseIdx]
        split <;> omega
      · rw [List.length_append, hpl]
        rfl
      · exact fun y hy => hMx y (List.mem_of_mem_eraseIdx hy)
      · rw [hf, List.append_assoc]
        rfl
    · rintro σ H2 ⟨pre, M, x, v8, v9, v10, rfl, s2, hM, hP, hMl, hpl, hMx, okk, hf⟩
      rw [setV_len, List.length_map, List.drop_length] at hf
      refine ⟨.ref pt, rfl, pt, _, rfl, .inl ⟨SqL.of hP, fun l nl2 => ?_⟩⟩
      refine ⟨_, rfl, (by show 2 ≤ sizeLine; decide), fun u nu => ?_⟩
      have f1 := s2.free nl2
      refine q _ u ((s2.trans (same_new nl2)).trans (same_new nu)) ⟨(s2.trans (same_new nl2)).free nu, l, f1, ?_, ?_⟩
      · rw [upd_same, hf]
        rfl
      · rw [upd_ne (ne_of_none (o := .tup (setV pre)) upd_same nu), upd_same, hf]
        show _ = some (HO.tup (setV (pre ++ [])))
        rw [List.append_nil]
end
/-! ### any value, seen as whole numbers, tuples and the rest -/
inductive TD where
  | int (i : Int) | tup (ts : List TD) | oth (t : String)
mutual
inductive VT (K : PySem.W.Frag) (H : Hp) : V → TD → Prop
  | int (i : Int) : VT K H (.int i) (.int i)
  | tup {a : Addr} {xs : List V} {ts : List TD} (h : SqT K H a xs) (t : VTs K H xs ts) : VT K H (.ref a) (.tup ts)
  | oth {v : V} {t : String} (h : TyX K H v (.type t)) (m : t ∈ tyNames) (n1 : (t == "int") = false) (n2 : (t == "tuple") = false) : VT K H v (.oth t)
inductive VTs (K : PySem.W.Frag) (H : Hp) : List V → List TD → Prop
  | nil : VTs K H [] []
  | cons {v : V} {t : TD} {vs : List V} {ts : List TD} (h : VT K H v t) (r : VTs K H vs ts) : VTs K H (v :: vs) (t :: ts)
end
theorem tyx_sameA {K : PySem.W.Frag} {H H' : Hp} {v : V} {t : Value} (e : Same H H') (h : TyX K H v t) : TyX K H' v t := by
  cases h with
  | base h =>
    cases h with
    | non => exact .base .non
    | bl x => exact .base (.bl x)
    | int i => exact .base (.int i)
    | str x => exact .base (.str x)
    | flt x => exact .base (.flt x)
    | lst z => exact .base (.lst (e _ _ z))
    | frz z => exact .base (.frz (e _ _ z))
    | tup z => exact .base (.tup (e _ _ z))
    | dK z => exact .base (.dK (e _ _ z))
    | dT z => exact .base (.dT (e _ _ z))
    | ins z a1 a2 a3 a4 a5 => exact .base (.ins (e _ _ z) a1 a2 a3 a4 a5)
  | byt b => exact .byt b
  | set z => exact .set (e _ _ z)
  | kList a b => exact .kList a b
  | kTuple a b => exact .kTuple a b
  | kDict a b => exact .kDict a b
  | fTuple z => exact .fTuple (e _ _ z)
  | fDict z => exact .fDict (e _ _ z)
def tyT : TD → String
  | .int _ => "int"
  | .tup _ => "tuple"
  | .oth t => t
theorem VTs.len {K : PySem.W.Frag} {H : Hp} : ∀ {vs : List V} {ts : List TD}, VTs K H vs ts → vs.length = ts.length
  | _, _, .nil => rfl
  | _, _, .cons _ r => congrArg (· + 1) r.len
theorem VTs.at {K : PySem.W.Frag} {H : Hp} : ∀ {vs : List V} {ts : List TD} {i : Nat} {v : V}, VTs K H vs ts → vs[i]? = some v → ∃ t, ts[i]? = some t ∧ VT K H v t
  | _, _, 0, _, .cons h _, e => ⟨_, rfl, by cases e; exact h⟩
  | _, _, i + 1, _, .cons _ r, e => r.at (i := i) e
theorem VT.ty {K : PySem.W.Frag} {H : Hp} {v : V} {t : TD} (h : VT K H v t) : TyX K H v (.type (tyT t)) ∧ tyT t ∈ tyNames := by
  cases h with
  | int i => exact ⟨.base (.int i), by show "int" ∈ tyNames; decide⟩
  | tup h t =>
    refine ⟨?_, by show "tuple" ∈ tyNames; decide⟩
    rcases h with (h | ⟨o, h⟩) | ⟨o, its, n, h1, h2, _⟩
    · exact .base (.tup h)
    · exact .fTuple h
    · exact .kTuple h1 h2
  | oth h m _ _ => exact ⟨h, m⟩
/-- a list of d servers, each once -/
def lchk (n : Int) : List Int → List TD → Bool
  | _, [] => true
  | seen, .int i :: r => decide (0 ≤ i) && (decide (i < n) && (!decide (i ∈ seen) && lchk n (i :: seen) r))
  | _, _ :: _ => false
def listT (n : Int) (d : Nat) : TD → Bool
  | .tup ts => decide (ts.length = d) && lchk n [] ts
  | _ => false
def tabT (n : Int) (d : Nat) : TD → Bool
  | .tup ts => !ts.isEmpty && ts.all (listT n d)
  | _ => false
theorem lchk_no {n : Int} {seen : List Int} {t : TD} {r : List TD} (h : ∀ i, t ≠ .int i) : lchk n seen (t :: r) = false := by
  cases t with
  | int i => exact absurd rfl (h i)
  | tup _ => rfl
  | oth _ => rfl
theorem dropT {ds : List TD} {i : Nat} {d : TD} (h : ds[i]? = some d) : ds.drop i = d :: ds.drop (i + 1) := by
  obtain ⟨hl, e⟩ := List.getElem?_eq_some_iff.mp h
  rw [List.drop_eq_getElem_cons hl, e]
/-! ### is_list of any value -/
def spIsL (K : PySem.W.Frag) : Sp := fun vs H Q _ => ∃ (n : Int) (d : Nat) (v : V) (t : TD), vs = [.int n, .int d, v] ∧ VT K H v t ∧ d ≤ 60 ∧ ∀ H', Same H H' → Q (.bl (listT n d t)) H'
section
variable {P : Program} {w : World} {K : PySem.W.Frag} {mg : Str → Option Value} {base : Heap}
theorem ok_isl (T : Txt K mg) {j : Nat} : FnOk P w K mg base CX0 (j + 2) T.fIsL T.fdIsL ["n", "depth", "thing"] (spIsL K) := by
  refine T.FIsL.ok scIsL (fun vs H Q E h => ?_) (fun cdv A outer s H vs Q E hr h => ?_)
  · obtain ⟨n, d, v, t, rfl, _⟩ := h
    rfl
  · obtain ⟨n, d, v, t, rfl, hv, hd, q⟩ := h
    refine ⟨_, C8.pss_cut (ps_if (PW.pt (pw_or (pt_not (pt_val (pe_callB (call_isiK1 K) (by rfl) T.n_isinstance (by decide +kernel) (pa_cons (pv 2) (pa_cons (pe_bltn (v := .ty "tuple") (by rfl) T.n_tuple (by decide +kernel) rfl) pa_nil))))) (pw_or1 (pt_cmpR op_ne (pe_callB (call_lenK K) (by rfl) T.n_len PySem.boot_len (pa_cons (pv 2) pa_nil)) (pv 1) (nomark _))))) (pss_one (ps_ret pe_bl)) pss_nil) (pss_cons (ps_set (i := 3) scIsL.nd rfl (.inl rfl) (pe_callTy0 cr_set0 (by rfl) T.n_set (by decide +kernel))) (pss_cons (ps_for PassesOwn.never rfl (pi_tup (pv 2)) (pg_name (i := 4) scIsL.nd rfl (.inl rfl)) (pss_cons (ps_if (PW.pt (pw_or (pt_not (pt_val (pe_call (ok_plain T) hr (by rfl) T.gPlain T.FPlain.kp T.bPlain .nil pass0 (pa_cons (pv 4) pa_nil)))) (pw_or (pt_cmpR op_lt (pv 4) pe_int (nomark _)) (pw_or (pt_cmpR op_ge (pv 4) (pv 0) (nomark _)) (pw_or1 (pt_cmpR or_sin (pv 4) (pv 3) (by rfl))))))) (pss_one (ps_ret pe_bl)) pss_nil) (pss_one (ps_expr (pe_sadd (pv 3) (pa_cons (pv 4) pa_nil)))))) (pss_one (ps_ret pe_bl)))), ?_⟩
    obtain ⟨ty, tm⟩ := hv.ty
    refine ⟨fun σ H1 => σ = [some (.int n), some (.int (d : Int)), some v, none, none] ∧ H1 = H ∧ ∃ ts, t = .tup ts ∧ ts.length = d, ?_, ?_⟩
    · refine ⟨v, rfl, v, .ty "tuple", _, _, _, rfl, .ty _, ty, kit_tuple tm, _, rfl, ?_⟩
      cases hv with
      | int i => exact iteT (iteT (q H (Same.refl H)))
      | oth h m n1 n2 =>
        rename_i t0
        rw [show (tyT (TD.oth t0) == "tuple") = false from n2]
        exact iteT (iteT (q H (Same.refl H)))
      | tup h r =>
        rename_i a xs ts
        refine iteF ?_
        refine ⟨.ref a, rfl, a, _, rfl, .inr h, _, rfl, rfl, _, rfl, ?_⟩
        rw [r.len]
        refine ite2 (fun z => ?_) (fun z => ?_)
        · have ne : ¬ ts.length = d := fun e => by
            rw [e] at z
            simp at z
          have q2 := q H (Same.refl H)
          rw [show listT n d (.tup ts) = false by show (decide (ts.length = d) && _) = false; rw [decide_eq_false ne]; rfl] at q2
          exact q2
        · refine ⟨rfl, rfl, ts, rfl, ?_⟩
          refine Classical.byContradiction fun ne => z ?_
          rw [decide_eq_false (fun e => ne (by injection e with e; omega))]
          rfl
    rintro σ H1 ⟨rfl, rfl, ts, rfl, hl⟩
    obtain ⟨a, xs, rfl, h, r⟩ : ∃ a xs, v = .ref a ∧ SqT K H1 a xs ∧ VTs K H1 xs ts := by
      cases hv with
      | tup h r => exact ⟨_, _, rfl, h, r⟩
    refine ⟨rfl, fun S nS => ?_⟩
    have q2 : ∀ H', Same H1 H' → Q (.bl (lchk n [] ts)) H' := fun H' s' => by
      have := q H' s'
      rw [show listT n d (.tup ts) = lchk n [] ts by show (decide (ts.length = d) && _) = _; rw [decide_eq_true hl]; rfl] at this
      exact this
    have xl := r.len
    refine ⟨.ref a, rfl, a, rfl, ⟨_, Same.seqT (same_new nS) h⟩, for_tup (K := K) (a := a) (xs := xs) (fun i σ H2 => ∃ (u : Option V) (seen : List Int) (g : Int → Bool) (m : Nat), σ = [some (.int n), some (.int (d : Int)), some (.ref a), some (.ref S), u] ∧ Same H1 H2 ∧ H2 S = some (SetO w S g m) ∧ (∀ j, g j = decide (j ∈ seen)) ∧ m ≤ i ∧ lchk n [] ts = lchk n seen (ts.drop i)) ⟨none, [], _, 0, rfl, same_new nS, upd_same, fun j => rfl, Nat.le_refl _, rfl⟩ (fun i σ H2 _ ⟨_, _, _, _, _, s2, _⟩ => Same.seqT s2 h) ?_ ?_⟩
    · rintro i x σ H2 hi ⟨u, seen, g, m, rfl, s2, hS, hg, hm, ec⟩
      have hi2 : i < xs.length := (List.getElem?_eq_some_iff.mp hi).1
      obtain ⟨t, ht, hT⟩ := r.at hi
      rw [dropT ht] at ec
      obtain ⟨ty1, tm1⟩ := hT.ty
      refine ⟨x, rfl, x, tyT t, rfl, tyx_sameA s2 ty1, tm1, _, rfl, ?_⟩
      have q3 := q2 H2 s2
      cases hT with
      | tup h r =>
        rw [ec] at q3
        exact iteT (iteT q3)
      | oth h m n1 n2 =>
        rename_i t0
        rw [show (tyT (TD.oth t0) == "int") = false from n1]
        rw [ec] at q3
        exact iteT (iteT q3)
      | int z =>
        rw [show lchk n seen (.int z :: ts.drop (i + 1)) = (decide (0 ≤ z) && (decide (z < n) && (!decide (z ∈ seen) && lchk n (z :: seen) (ts.drop (i + 1))))) from rfl] at ec
        refine iteF ?_
        refine ⟨_, rfl, _, _, rfl, rfl, _, rfl, ite2 (fun h1 => ?_) (fun h1 => ?_)⟩
        · have h2 : z < 0 := of_decide_eq_true h1
          rw [decide_eq_false (show ¬ 0 ≤ z by omega)] at ec
          rw [ec] at q3
          exact iteT q3
        · have h2 : ¬ z < 0 := fun y => h1 (decide_eq_true y)
          rw [decide_eq_true (show 0 ≤ z by omega), Bool.true_and] at ec
          refine ⟨_, rfl, _, rfl, _, _, rfl, rfl, _, rfl, ite2 (fun h3 => ?_) (fun h3 => ?_)⟩
          · have h4 : n ≤ z := of_decide_eq_true h3
            rw [decide_eq_false (show ¬ z < n by omega)] at ec
            rw [ec] at q3
            exact iteT q3
          · have h4 : ¬ n ≤ z := fun y => h3 (decide_eq_true y)
            rw [decide_eq_true (show z < n by omega), Bool.true_and] at ec
            refine ⟨_, rfl, _, rfl, z, S, g, m, rfl, rfl, hS, _, rfl, ?_⟩
            rw [hg z]
            refine ite2 (fun h5 => ?_) (fun h5 => ?_)
            · rw [h5] at ec
              rw [ec] at q3
              exact q3
            · have h6 : decide (z ∈ seen) = false := by simpa using h5
              rw [h6] at ec
              refine ⟨.ref S, rfl, ⟨S, g, m, rfl, hS⟩, _, rfl, S, z, g, m, rfl, rfl, hS, by show m + 1 < 4096; omega, ?_⟩
              refine ⟨_, z :: seen, _, _, rfl, keep_upd s2 nS, upd_same, fun j => ?_, ?_, ec⟩
              · show (g j || decide (j = z)) = _
                rw [hg j]
                by_cases e : j = z <;> simp [e]
              · split <;> omega
    · rintro σ H2 ⟨u, seen, g, m, rfl, s2, hS, hg, hm, ec⟩
      rw [xl, List.drop_length] at ec
      have q3 := q2 H2 s2
      rw [ec] at q3
      exact q3
end
/-! ### is_table of any value -/
mutual
theorem VT.same {K : PySem.W.Frag} {H H' : Hp} (s : Same H H') : ∀ {v : V} {t : TD}, VT K H v t → VT K H' v t
  | _, _, .int i => .int i
  | _, _, .tup h t => .tup (Same.seqT s h) (VTs.same s t)
  | _, _, .oth h m n1 n2 => .oth (tyx_sameA s h) m n1 n2
theorem VTs.same {K : PySem.W.Frag} {H H' : Hp} (s : Same H H') : ∀ {vs : List V} {ts : List TD}, VTs K H vs ts → VTs K H' vs ts
  | _, _, .nil => .nil
  | _, _, .cons h r => .cons (VT.same s h) (VTs.same s r)
end
def spIsTab (K : PySem.W.Frag) : Sp := fun vs H Q _ => ∃ (n : Int) (d : Nat) (v : V) (t : TD), vs = [.int n, .int d, v] ∧ VT K H v t ∧ d ≤ 60 ∧ ∀ H', Same H H' → Q (.bl (tabT n d t)) H'
section
variable {P : Program} {w : World} {K : PySem.W.Frag} {mg : Str → Option Value} {base : Heap}
theorem ok_istab (T : Txt K mg) {j : Nat} : FnOk P w K mg base CX0 (j + 3) T.fIsTab T.fdIsTab ["n", "depth", "thing"] (spIsTab K) := by
  refine T.FIsTab.ok scIsTab (fun vs H Q E h => ?_) (fun cdv A outer s H vs Q E hr h => ?_)
  · obtain ⟨n, d, v, t, rfl, _⟩ := h
    rfl
  · obtain ⟨n, d, v, t, rfl, hv, hd, q⟩ := h
    refine ⟨_, C8.pss_cut (ps_if (PW.pt (pw_or (pt_not (pt_val (pe_callB (call_isiK1 K) (by rfl) T.n_isinstance (by decide +kernel) (pa_cons (pv 2) (pa_cons (pe_bltn (v := .ty "tuple") (by rfl) T.n_tuple (by decide +kernel) rfl) pa_nil))))) (pw_or1 (pt_cmpR op_eq (pe_callB (call_lenK K) (by rfl) T.n_len PySem.boot_len (pa_cons (pv 2) pa_nil)) pe_int (nomark _))))) (pss_one (ps_ret pe_bl)) pss_nil) (pss_cons (ps_for PassesOwn.never rfl (pi_tup (pv 2)) (pg_name (i := 3) scIsTab.nd rfl (.inl rfl)) (pss_one (ps_if (pt_not (pt_val (pe_call (ok_isl T) hr (by rfl) T.gIsL T.FIsL.kp T.bIsL .nil pass0 (pa_cons (pv 0) (pa_cons (pv 1) (pa_cons (pv 3) pa_nil)))))) (pss_one (ps_ret pe_bl)) pss_nil))) (pss_one (ps_ret pe_bl))), ?_⟩
    obtain ⟨ty, tm⟩ := hv.ty
    refine ⟨fun σ H1 => σ = [some (.int n), some (.int (d : Int)), some v, none] ∧ H1 = H ∧ ∃ ts, t = .tup ts ∧ ts ≠ [], ?_, ?_⟩
    · refine ⟨v, rfl, v, .ty "tuple", _, _, _, rfl, .ty _, ty, kit_tuple tm, _, rfl, ?_⟩
      cases hv with
      | int i => exact iteT (iteT (q H (Same.refl H)))
      | oth h m n1 n2 =>
        rename_i t0
        rw [show (tyT (TD.oth t0) == "tuple") = false from n2]
        exact iteT (iteT (q H (Same.refl H)))
      | tup h r =>
        rename_i a xs ts
        refine iteF ?_
        refine ⟨.ref a, rfl, a, _, rfl, .inr h, rfl, _, rfl, ?_⟩
        rw [r.len]
        cases ts with
        | nil => exact iteT (q H (Same.refl H))
        | cons t0 tr =>
          refine ite2 (fun z => ?_) (fun z => ⟨rfl, rfl, _, rfl, fun e => by cases e⟩)
          have := of_decide_eq_true z
          injection this with this
          rw [List.length_cons] at this
          omega
    rintro σ H1 ⟨rfl, rfl, ts, rfl, hne⟩
    obtain ⟨a, xs, rfl, h, r⟩ : ∃ a xs, v = .ref a ∧ SqT K H1 a xs ∧ VTs K H1 xs ts := by
      cases hv with
      | tup h r => exact ⟨_, _, rfl, h, r⟩
    have q2 : ∀ H', Same H1 H' → Q (.bl (ts.all (listT n d))) H' := fun H' s' => by
      have := q H' s'
      rw [show tabT n d (.tup ts) = ts.all (listT n d) by
        cases ts with
        | nil => exact absurd rfl hne
        | cons _ _ => rfl] at this
      exact this
    have xl := r.len
    refine ⟨.ref a, rfl, a, rfl, ⟨_, h⟩, for_tup (K := K) (a := a) (xs := xs) (fun i σ H2 => ∃ (u : Option V), σ = [some (.int n), some (.int (d : Int)), some (.ref a), u] ∧ Same H1 H2 ∧ (ts.take i).all (listT n d) = true) ⟨none, rfl, Same.refl _, rfl⟩ (fun i σ H2 _ ⟨_, _, s2, _⟩ => Same.seqT s2 h) ?_ ?_⟩
    · rintro i x σ H2 hi ⟨u, rfl, s2, al⟩
      obtain ⟨t, ht, hT⟩ := (VTs.same s2 r).at hi
      refine ⟨_, rfl, _, rfl, x, rfl, n, d, x, t, rfl, hT, hd, fun H3 s3 => ?_⟩
      refine ⟨_, rfl, ?_⟩
      cases hb : listT n d t with
      | false =>
        refine iteT ?_
        have q3 := q2 H3 (s2.trans s3)
        rw [show ts.all (listT n d) = false by
          rw [List.all_eq_false]
          exact ⟨t, List.mem_of_getElem? ht, by rw [hb]; decide⟩] at q3
        exact q3
      | true =>
        refine iteF ⟨_, rfl, s2.trans s3, ?_⟩
        rw [take_snoc ht, List.all_append, al]
        show (true && (listT n d t && true)) = true
        rw [hb]
        rfl
    · rintro σ H2 ⟨u, rfl, s2, al⟩
      rw [xl, List.take_length] at al
      have q3 := q2 H2 s2
      rw [al] at q3
      exact q3
end
/-! ### TooMany's __init__ -/
section
variable {P : Program} {w : World} {K : PySem.W.Frag} {mg : Str → Option Value} {base : Heap}
theorem ok_toom (T : Txt K mg) {j : Nat} : FnOk P w K mg base CX0 (j + 1) T.fTooM T.fdTooM ["self", "count"] (spErr K T.cTooM "count") := by
  refine T.FTooM.ok scTooM (fun vs H Q E h => ?_) (fun cdv A outer s H vs Q E hr h => ?_)
  · obtain ⟨a, v, rfl, _⟩ := h
    rfl
  · obtain ⟨a, v, rfl, ha, q⟩ := h
    refine ⟨_, pss_cons (ps_expr (pe_baseInit (by rfl) T.gcBase T.btBase.sp T.btBase.ty T.btBase.rd T.btBase.fc (pa_cons (pv 0) (pa_cons pe_str pa_nil)))) (pss_one (ps_ost (pv 0) (pv 1))), ?_⟩
    refine ⟨.ref a, rfl, a, T.cTooM, _, rfl, (by show 1 ≤ 1000; decide), T.eTooM.ox, ha, ?_⟩
    refine ⟨v, rfl, .ref a, rfl, a, T.cTooM, rfl, T.eTooM.ox, T.eTooM.no, .inl ⟨ha, fun dx nd ne => q dx nd ne⟩⟩
end
/-! ### standard_table -/
def spStdT (K : PySem.W.Frag) (CP CM : Addr) : Sp := fun vs H Q E => ∃ (n d : Nat) (v : V) (o : Option Int), vs = [.int n, .int d, v] ∧ n ≤ 60 ∧ 1 ≤ n ∧ d ≤ n ∧ CountV K H v o ∧
  (possB (leastL n d) o = false → Raised "count" CP v H E) ∧
  (∀ c : Nat, o = some (c : Int) → Std n d c → (5000 < c → Raised "count" CM v H E) ∧ (c ≤ 5000 → ∀ H' u, Same H H' → TabAt K H' u (stdRows n d c) → Q (.ref u) H'))
section
variable {P : Program} {w : World} {K : PySem.W.Frag} {mg : Str → Option Value} {base : Heap}
theorem ok_stdt (T : Txt K mg) {j : Nat} : FnOk P w K mg base (L2.CX P w) (j + 6) T.fStdT T.fdStdT ["n", "depth", "count"] (spStdT K T.cNotP T.cTooM) := by
  refine T.FStdT.okX scStdT (fun vs H Q E h => ?_) (fun cdv A outer s H vs Q E hr h => ?_)
  · obtain ⟨n, d, v, o, rfl, _⟩ := h
    rfl
  · obtain ⟨n, d, v, o, rfl, hn, h1, hd, hv, q1, q2⟩ := h
    refine ⟨_, pss_cons (ps_expr (pe_call (ok_chkp T) hr (by rfl) T.gChkP T.FChkP.kp T.bChkP .nil (passes_call (takes_of rfl rfl rfl rfl) (fun _ _ _ _ h => h)) (pa_cons (pv 0) (pa_cons (pv 1) (pa_cons (pv 2) pa_nil))))) (pss_cons (ps_if (pt_cmpR op_gt (pv 2) (pe_glob (v := .int 5000) (by rfl) T.gMOST_LISTS ⟨_, rfl⟩) (nomark _)) (pss_one (ps_raise rfl (takes_of rfl rfl rfl rfl) (pmk_oex T.eTooM.ox T.eTooM.iC T.eTooM.tI (ok_toom T) hr T.bTooM .nil pass0 (by rfl) T.gcTooM (pa_cons (pv 2) pa_nil)))) pss_nil) (pss_cons (ps_set (i := 3) scStdT.nd rfl (.inl rfl) (pe_call (ok_wid T) hr (by rfl) T.gWid T.FWid.kp T.bWid .nil pass0 (pa_cons (pv 0) (pa_cons (pv 1) (pa_cons (pv 2) pa_nil))))) (pss_cons (ps_set (i := 4) scStdT.nd rfl (.inl rfl) (pe_listRg rfl (by rfl) T.n_list (prg_1 (by rfl) T.n_range (pv 0)))) (pss_cons (ps_set (i := 5) scStdT.nd rfl (.inl rfl) (pe_lst pa_nil)) (pss_cons (ps_for (passes_of rfl) rfl (pi_range1 (by rfl) T.n_range (pa_cons (pv 2) pa_nil)) (pg_name (i := 6) scStdT.nd rfl (.inl rfl)) (pss_cons (ps_asg (pe_call (ok_follow T) hr (by rfl) T.gFollow T.FFollow.kp T.bFollow .nil pass0 (pa_cons (pv 3) (pa_cons (pv 4) (pa_cons (pv 6) pa_nil)))) (pg_tup rfl (pgs_cons (pg_name (i := 7) scStdT.nd rfl (.inl rfl)) (pgs_cons (pg_name (i := 8) scStdT.nd rfl (.inl rfl)) pgs_nil)))) (pss_one (ps_expr (pe_bm PySem.F.plainAttrs_list PySem.F.slot_list_append PySem.F.type_list_append mt_append (pv 5) (pa_cons (pv 7) pa_nil)))))) (pss_one (ps_ret (pe_callTy (call_tupleK K) (by rfl) T.n_tuple (by decide +kernel) (pa_cons (pv 5) pa_nil))))))))), ?_⟩
    refine ⟨_, rfl, _, rfl, v, rfl, n, d, v, o, rfl, hn, h1, hd, hv, fun hp H0 s0 => ?_, q1⟩
    obtain ⟨c, rfl, st⟩ := poss_std hn h1 hd hp
    obtain ⟨q2, q3⟩ := q2 c rfl st
    replace q2 := fun z => (q2 z).on s0
    obtain rfl : v = .int (c : Int) := by
      rcases hv with ⟨x, e, rfl⟩ | ⟨e, _⟩
      · rw [← Option.some.inj e]
      · cases e
    refine ⟨_, rfl, _, _, rfl, rfl, _, rfl, ite2 (fun hb => ?_) (fun hb => ?_)⟩
    · have h5 : (5000 : Int) < (c : Int) := of_decide_eq_true hb
      refine ⟨.int c, rfl, (by show 1 ≤ 1000; decide), fun a na => ⟨a, .int c, rfl, upd_same, fun dx nd ne => ?_⟩⟩
      obtain ⟨e1, e2, e3, e4, e5⟩ := err_end (f := "count") (v := .int c) na nd ne
      exact ⟨rfl, dx, _, e1, e2, e3, q2 (by omega) _ dx e4 e5 e3⟩
    · have h5 : ¬ (5000 : Int) < (c : Int) := fun z => hb (decide_eq_true z)
      have hc : c < 2 ^ 500 := Nat.lt_of_le_of_lt (show c ≤ 5000 by omega) (by decide +kernel)
      refine ⟨_, rfl, _, rfl, _, rfl, n, d, c, rfl, hn, h1, hd, fun Hw pw sw nw hW => ?_⟩
      have hw : wdsL n c d = (List.range' 0 d).map (wd n c) := by
        unfold wdsL
        rw [List.range_eq_range']
      rw [hw] at hW
      refine ⟨_, rfl, _, rfl, .of_le (by omega) (by omega) (by omega) (by omega), fun pv nv => ?_⟩
      rw [setV_range n]
      have sv := same_new (o := .lst (setV (List.range' 0 n))) nv
      have hV : (upd Hw pv (.lst (setV (List.range' 0 n)))) pv = some (.lst (setV (List.range' 0 n))) := upd_same
      replace hW := sv _ _ hW
      have s9 := (s0.trans sw).trans sv
      generalize upd Hw pv (.lst (setV (List.range' 0 n))) = H9 at hW hV s9
      refine ⟨Nat.zero_le _, fun pt nt => ?_⟩
      refine ⟨_, rfl, (c : Int), rfl, by omega, by omega, ?_⟩
      refine for_range (lo := 0) (n := (c : Int).toNat) (fun i σ H2 => ∃ (ts : List V) (v4 v5 v6 : Option V), σ = [some (.int n), some (.int d), some (.int c), some (.ref pw), some (.ref pv), some (.ref pt), v4, v5, v6] ∧ Same H9 H2 ∧ H2 pt = some (.lst ts) ∧ ts.length = i ∧ PySem.Paired (fun v ms => ∃ t, v = V.ref t ∧ SqT K (hide pt H2) t (setV ms)) ts ((List.range i).map fun k => (path n d c k).1)) ⟨[], none, none, none, rfl, same_new nt, upd_same, rfl, .nil⟩ ?_ ?_
      · rintro i σ H2 hi ⟨ts, v4, v5, v6, rfl, s2, hT, hl, pr⟩
        have hic : i < c := by omega
        rw [Int.zero_add]
        refine ⟨_, rfl, _, rfl, _, rfl, n, c, pw, pv, List.range' 0 d, List.range' 0 n, i, rfl, hc, SqL.of (s2 _ _ hW), by rw [List.length_range']; omega, .inl (SqL.of (s2 _ _ hV)), by rw [List.length_range']; omega, fun x hx => by have := mem_range0.mp hx; omega, path_ok st hic, fun H3 u s3 pu => ?_⟩
        obtain ⟨nu, t, ntt, hu2, ht⟩ := pu
        refine ⟨u, _, rfl, SqT.of hu2, rfl, _, _, rfl, _, _, rfl, rfl, ?_⟩
        have hT3 := s3 _ _ hT
        have tpt : t ≠ pt := fun z => by
          rw [z, hT] at ntt
          cases ntt
        refine ⟨.ref pt, rfl, .inl ⟨rfl, _, SqL.of hT3⟩, _, rfl, pt, _, _, rfl, rfl, hT3, ?_, ?_⟩
        · rw [sizeLine_eq]
          omega
        refine ⟨ts ++ [V.ref t], some (.int (i : Int)), some (.ref t), some (.int ((path n d c i).2 : Nat)), rfl, keep_upd (s2.trans s3) nt, upd_same, by rw [List.length_append, hl]; rfl, ?_⟩
        have sh : Same (hide pt H2) (hide pt (upd H3 pt (.lst (ts ++ [V.ref t])))) := fun b o e => by
          by_cases hbp : b = pt
          · unfold hide at e
            rw [if_pos hbp] at e
            cases e
          · rw [hide_ne hbp] at e ⊢
            rw [upd_ne hbp]
            exact s3 b o e
        rw [List.range_succ, List.map_append]
        refine paired_app (PySem.Paired.mono (fun v ms hz => ?_) pr) (.cons ⟨t, rfl, SqT.of ?_⟩ .nil)
        · obtain ⟨t', e1, e2⟩ := hz
          exact ⟨t', e1, Same.seqT sh e2⟩
        · rw [hide_ne tpt, upd_ne tpt]
          exact ht
      · rintro σ H2 ⟨ts, v4, v5, v6, rfl, s2, hT, hl, pr⟩
        rw [Int.toNat_natCast] at pr
        refine ⟨.ref pt, rfl, pt, _, rfl, .inl ⟨SqL.of hT, fun u nu => ?_⟩⟩
        refine q3 (by omega) _ u ((s9.trans s2).trans (same_new nu)) ⟨ts, SqT.of upd_same, PySem.Paired.mono (fun v ms hz => ?_) pr⟩
        obtain ⟨t, e1, e2⟩ := hz
        exact ⟨t, e1, Same.seqT ((hide_same pt H2).trans (same_new nu)) e2⟩
end
/-! ### TooShort's __init__ -/
section
variable {P : Program} {w : World} {K : PySem.W.Frag} {mg : Str → Option Value} {base : Heap}
theorem ok_toos (T : Txt K mg) {j : Nat} : FnOk P w K mg base CX0 (j + 1) T.fTooS T.fdTooS ["self", "order"] (spErr K T.cTooS "order") := by
  refine T.FTooS.ok scTooS (fun vs H Q E h => ?_) (fun cdv A outer s H vs Q E hr h => ?_)
  · obtain ⟨a, v, rfl, _⟩ := h
    rfl
  · obtain ⟨a, v, rfl, ha, q⟩ := h
    refine ⟨_, pss_cons (ps_expr (pe_baseInit (by rfl) T.gcBase T.btBase.sp T.btBase.ty T.btBase.rd T.btBase.fc (pa_cons (pv 0) (pa_cons pe_str pa_nil)))) (pss_one (ps_ost (pv 0) (pv 1))), ?_⟩
    refine ⟨.ref a, rfl, a, T.cTooS, _, rfl, (by show 1 ≤ 1000; decide), T.eTooS.ox, ha, ?_⟩
    refine ⟨v, rfl, .ref a, rfl, a, T.cTooS, rfl, T.eTooS.ox, T.eTooS.no, .inl ⟨ha, fun dx nd ne => q dx nd ne⟩⟩
end
/-! ### holders -/
def inL (ls os : List Nat) : List Nat := os.filter fun x => decide (x ∈ ls)
def holdL (ls os : List Nat) (w : Nat) : List Nat := (inL ls os).take w
theorem inL_step {ls os : List Nat} {i x : Nat} (h : os[i]? = some x) : inL ls (os.take (i + 1)) = inL ls (os.take i) ++ if x ∈ ls then [x] else [] := by
  unfold inL
  rw [List.take_add_one, h, List.filter_append]
  congr 1
  show List.filter _ [x] = _
  by_cases c : x ∈ ls
  · rw [List.filter_cons_of_pos (by simpa using c), if_pos c]
    rfl
  · rw [List.filter_cons_of_neg (by simpa using c), if_neg c]
    rfl
theorem hold_step {ls os : List Nat} {w i x : Nat} (h : os[i]? = some x) : holdL ls (os.take (i + 1)) w = if (holdL ls (os.take i) w).length < w ∧ x ∈ ls then holdL ls (os.take i) w ++ [x] else holdL ls (os.take i) w := by
  unfold holdL
  rw [inL_step h, List.take_append, List.length_take]
  by_cases c : x ∈ ls
  · rw [if_pos c]
    by_cases c2 : (inL ls (os.take i)).length < w
    · rw [if_pos ⟨by omega, c⟩, List.take_of_length_le (l := [x]) (by show 1 ≤ _; omega)]
    · rw [if_neg (by omega), show w - (inL ls (os.take i)).length = 0 by omega, List.take_zero, List.append_nil]
  · rw [if_neg c, if_neg (fun z => c z.2), List.take_nil, List.append_nil]
theorem hold_len (ls os : List Nat) (w : Nat) : (holdL ls os w).length = min w (inL ls os).length := by
  unfold holdL
  rw [List.length_take]
theorem inL_mem {ls os : List Nat} {x : Nat} (h : x ∈ inL ls os) : x ∈ os ∧ x ∈ ls := by
  have := List.mem_filter.mp h
  exact ⟨this.1, of_decide_eq_true this.2⟩
theorem hold_mem {ls os : List Nat} {w x : Nat} (h : x ∈ holdL ls os w) : x ∈ os ∧ x ∈ ls := inL_mem (List.mem_of_mem_take h)
theorem hold_full {ls os : List Nat} {w i : Nat} (h : w ≤ (holdL ls (os.take i) w).length) : holdL ls os w = holdL ls (os.take i) w := by
  have e : inL ls os = inL ls (os.take i) ++ inL ls (os.drop i) := by
    unfold inL
    rw [← List.filter_append, List.take_append_drop]
  rw [hold_len] at h
  unfold holdL
  rw [e, List.take_append_of_le_length (by omega)]
/-! ### holders -/
def spHold (K : PySem.W.Frag) (CS : Addr) : Sp := fun vs H Q E => ∃ (a b : Addr) (os ls : List Nat) (f : Nat), vs = [.ref a, .ref b, .int f] ∧ SqT K H a (setV os) ∧ SqT K H b (setV ls) ∧ os.length ≤ 60 ∧ ls.length ≤ 60 ∧
  (min f ls.length ≤ (inL ls os).length → ∀ H' t, Same H H' → H t = none → H' t = some (.tup (setV (holdL ls os (min f ls.length)))) → Q (.ref t) H') ∧
  ((inL ls os).length < min f ls.length → Raised "order" CS (.ref a) H E)
section
variable {P : Program} {w : World} {K : PySem.W.Frag} {mg : Str → Option Value} {base : Heap}
theorem ok_hold (T : Txt K mg) {j : Nat} : FnOk P w K mg base (L2.CX P w) (j + 3) T.fHold T.fdHold ["order", "live", "factor"] (spHold K T.cTooS) := by
  refine T.FHold.okX scHold (fun vs H Q E h => ?_) (fun cdv A outer s H vs Q E hr h => ?_)
  · obtain ⟨a, b, os, ls, f, rfl, _⟩ := h
    rfl
  · obtain ⟨a, b, os, ls, f, rfl, hA, hB, la, lb, q1, q2⟩ := h
    refine ⟨_, pss_cons (ps_set (i := 3) scHold.nd rfl (.inl rfl) (pe_callB (call_min2 rfl) (by rfl) T.n_min (by decide +kernel) (pa_cons (pv 2) (pa_cons (pe_callB (call_lenK K) (by rfl) T.n_len PySem.boot_len (pa_cons (pv 1) pa_nil)) pa_nil)))) (pss_cons (ps_set (i := 4) scHold.nd rfl (.inl rfl) (pe_lst pa_nil)) (C8.pss_cut (ps_for (passes_of rfl) rfl (pi_tup (pv 0)) (pg_name (i := 5) scHold.nd rfl (.inl rfl)) (pss_cons (ps_if (pt_cmpR op_ge (pe_callB (call_lenK K) (by rfl) T.n_len PySem.boot_len (pa_cons (pv 4) pa_nil)) (pv 3) (nomark _)) (pss_one ps_break) pss_nil) (pss_one (ps_if (pt_cmpR (op_inK K) (pv 5) (pv 1) (by rfl)) (pss_one (ps_expr (pe_bm PySem.F.plainAttrs_list PySem.F.slot_list_append PySem.F.type_list_append mt_append (pv 4) (pa_cons (pv 5) pa_nil)))) pss_nil)))) (pss_cons (ps_if (pt_cmpR op_lt (pe_callB (call_lenK K) (by rfl) T.n_len PySem.boot_len (pa_cons (pv 4) pa_nil)) (pv 3) (nomark _)) (pss_one (ps_raise rfl (takes_of rfl rfl rfl rfl) (pmk_oex T.eTooS.ox T.eTooS.iC T.eTooS.tI (ok_toos T) hr T.bTooS .nil pass0 (by rfl) T.gcTooS (pa_cons (pv 0) pa_nil)))) pss_nil) (pss_one (ps_ret (pe_callTy (call_tupleK K) (by rfl) T.n_tuple (by decide +kernel) (pa_cons (pv 4) pa_nil))))))), ?_⟩
    have em : (if ((setV ls).length : Int) < (f : Int) then ((setV ls).length : Int) else (f : Int)) = ((min f ls.length : Nat) : Int) := by
      rw [setV_len]
      by_cases c : ls.length < f
      · rw [if_pos (by omega), Nat.min_eq_right (by omega)]
      · rw [if_neg (by omega), Nat.min_eq_left (by omega)]
    refine ⟨_, rfl, .ref b, rfl, b, _, rfl, .inr hB, _, _, rfl, ?_⟩
    dsimp only [gName]
    rw [em]
    generalize min f ls.length = wn at q1 q2
    refine ⟨Nat.zero_le _, fun pf nf => ?_⟩
    refine ⟨fun σ H2 => ∃ v5, σ = [some (.ref a), some (.ref b), some (.int f), some (.int wn), some (.ref pf), v5] ∧ Same H H2 ∧ H2 pf = some (.lst (setV (holdL ls os wn))), ?_, ?_⟩
    · refine ⟨.ref a, rfl, a, rfl, ⟨_, Same.seqT (same_new nf) hA⟩, for_tup (K := K) (a := a) (xs := setV os) (fun i σ H2 => ∃ v5, σ = [some (.ref a), some (.ref b), some (.int f), some (.int wn), some (.ref pf), v5] ∧ Same H H2 ∧ H2 pf = some (.lst (setV (holdL ls (os.take i) wn)))) ⟨none, rfl, same_new nf, ?_⟩ (fun i σ H2 _ ⟨_, _, s2, _⟩ => Same.seqT s2 hA) ?_ ?_⟩
      · rw [upd_same]
        unfold holdL inL
        simp [setV]
      · rintro i x σ H2 hz ⟨v5, rfl, s2, hF⟩
        obtain ⟨m, hm, rfl⟩ := setV_get hz
        have hl2 := hold_len ls (os.take i) wn
        have hl3 : (inL ls (os.take i)).length ≤ 60 := by
          have := List.length_filter_le (fun x => decide (x ∈ ls)) (os.take i)
          have h2 : (os.take i).length ≤ 60 := by
            rw [List.length_take]
            omega
          exact Nat.le_trans this h2
        have st := hold_step (ls := ls) (w := wn) hm
        refine ⟨.ref pf, rfl, pf, _, rfl, .inl (SqL.of hF), _, rfl, _, _, rfl, rfl, _, rfl, ite2 (fun h1 => ?_) (fun h1 => ?_)⟩
        · have h2 : wn ≤ (holdL ls (os.take i) wn).length := by
            have h3 : (wn : Int) ≤ ((setV (holdL ls (os.take i) wn)).length : Int) := of_decide_eq_true h1
            rw [setV_len] at h3
            omega
          exact ⟨_, rfl, s2, by rw [hold_full h2]; exact hF⟩
        · have h2 : (holdL ls (os.take i) wn).length < wn := by
            have h3 : ¬ (wn : Int) ≤ ((setV (holdL ls (os.take i) wn)).length : Int) := fun z => h1 (decide_eq_true z)
            rw [setV_len] at h3
            omega
          refine ⟨_, rfl, .ref b, rfl, b, _, rfl, .inr (Same.seqT s2 hB), rfl, setV_flat _, _, rfl, ?_⟩
          rw [inV_setV]
          refine ite2 (fun h3 => ?_) (fun h3 => ?_)
          · have h4 : m ∈ ls := of_decide_eq_true (by simpa using h3)
            rw [if_pos ⟨h2, h4⟩] at st
            refine ⟨.ref pf, rfl, .inl ⟨rfl, _, SqL.of hF⟩, _, rfl, pf, _, _, rfl, rfl, hF, ?_, _, rfl, keep_upd s2 nf, ?_⟩
            · rw [setV_len]
              exact small1000 (by omega)
            · rw [upd_same, st, setV_app]
              rfl
          · have h4 : ¬ m ∈ ls := fun z => h3 (by simpa using z)
            rw [if_neg (fun z => h4 z.2)] at st
            exact ⟨_, rfl, s2, by rw [st]; exact hF⟩
      · rintro σ H2 ⟨v5, rfl, s2, hF⟩
        rw [setV_len, List.take_length] at hF
        exact ⟨_, rfl, s2, hF⟩
    · rintro σ H2 ⟨v5, rfl, s2, hF⟩
      have hl2 := hold_len ls os wn
      refine ⟨.ref pf, rfl, pf, _, rfl, .inl (SqL.of hF), _, rfl, _, _, rfl, rfl, _, rfl, ite2 (fun h1 => ?_) (fun h1 => ?_)⟩
      · have h2 : (holdL ls os wn).length < wn := by
          have h3 : ((setV (holdL ls os wn)).length : Int) < (wn : Int) := of_decide_eq_true h1
          rw [setV_len] at h3
          omega
        refine ⟨.ref a, rfl, (by show 1 ≤ 1000; decide), fun e ne => ⟨e, .ref a, rfl, upd_same, fun dx nd nx => ?_⟩⟩
        obtain ⟨e1, e2, e3, e4, e5⟩ := err_end (f := "order") (v := .ref a) ne nd nx
        exact ⟨rfl, dx, _, e1, e2, e3, q2 (by omega) _ dx (s2.trans e4) e5 (s2.free e3)⟩
      · have h2 : ¬ (holdL ls os wn).length < wn := fun z => h1 (decide_eq_true (by rw [setV_len]; omega))
        refine ⟨.ref pf, rfl, pf, _, rfl, .inl ⟨SqL.of hF, fun t nt => ?_⟩⟩
        exact q1 (by omega) _ t (s2.trans (same_new nt)) (s2.free nt) upd_same
end
/-! ### tuples of servers as keys -/
def nkT (ms : List Nat) : NestedKey := .tup (ms.map fun (m : Nat) => .num (m : Int))
theorem nk_all_set {K : PySem.W.Frag} {H : Hp} : ∀ ms : List Nat, NkAll K H (ms.map fun (m : Nat) => NestedKey.num (m : Int)) (setV ms)
  | [] => .nil
  | m :: r => .cons (.num _) (nk_all_set r)
theorem nkT_at {K : PySem.W.Frag} {H : Hp} {t : Addr} {ms : List Nat} (h : SqT K H t (setV ms)) : NkAt K H (nkT ms) (.ref t) := .tup h (nk_all_set ms)
theorem nkT_depth (ms : List Nat) : (nkT ms).depth ≤ 8 := by
  have e : ∀ l : List Nat, NestedKey.depthAll (l.map fun (m : Nat) => NestedKey.num (m : Int)) = 0 := by
    intro l
    induction l with
    | nil => rfl
    | cons a r ih =>
      rw [List.map_cons]
      simp only [NestedKey.depthAll, NestedKey.depth]
      rw [ih]
      rfl
  unfold nkT
  simp only [NestedKey.depth]
  rw [e]
  decide
theorem nkT_inj {a b : List Nat} (h : nkT a = nkT b) : a = b := by
  unfold nkT at h
  injection h with h
  induction a generalizing b with
  | nil =>
    cases b with
    | nil => rfl
    | cons y s => cases h
  | cons x r ih =>
    cases b with
    | nil => cases h
    | cons y s =>
      rw [List.map_cons, List.map_cons] at h
      injection h with h1 h2
      injection h1 with h1
      rw [ih h2, show x = y by omega]
/-- how often a set comes among the keys -/
theorem nkT_count (ks : List (List Nat)) (c : List Nat) : (ks.map nkT).count (nkT c) = ks.count c := by
  induction ks with
  | nil => rfl
  | cons k r ih =>
    rw [List.map_cons, List.count_cons, List.count_cons, ih]
    congr 1
    by_cases e : k = c
    · rw [e, if_pos (beq_self_eq_true _), if_pos (beq_self_eq_true _)]
    · rw [if_neg (fun z => e (nkT_inj (beq_iff_eq.mp z))), if_neg (fun z => e (beq_iff_eq.mp z))]
theorem tally_get (ks : List (List Nat)) (c : List Nat) : (valV (tallyN (ks.map nkT)) (nkT c)).getD (.int 0) = .int (ks.count c : Nat) := by
  rw [tally_val _ _ rfl, nkT_count]
  by_cases e : ks.count c = 0
  · rw [if_pos e, e]
    rfl
  · rw [if_neg e]
    rfl
theorem tally_len (ks : List NestedKey) : (tallyN ks).length ≤ ks.length := by
  unfold tallyN
  have g : ∀ (ks : List NestedKey) (acc : List (NestedKey × V)), (ks.foldl (fun acc k => putK acc k (.int (cntV (valV acc k) + 1))) acc).length ≤ acc.length + ks.length := by
    intro ks
    induction ks with
    | nil => intro acc; exact Nat.le_refl _
    | cons k r ih =>
      intro acc
      rw [List.foldl_cons]
      have h1 := ih (putK acc k (.int (cntV (valV acc k) + 1)))
      have h2 := length_putK acc k (.int (cntV (valV acc k) + 1))
      rw [List.length_cons]
      omega
  have := g ks []
  rw [List.length_nil] at this
  omega
/-- one more -/
theorem tally_one (ks : List (List Nat)) (c : List Nat) : putK (tallyN (ks.map nkT)) (nkT c) (.int ((ks.count c : Nat) + 1)) = tallyN ((ks ++ [c]).map nkT) := by
  rw [List.map_append]
  show _ = tallyN (ks.map nkT ++ [nkT c])
  rw [tally_snoc]
  congr 2
  congr 1
  rw [tally_val _ _ rfl, nkT_count]
  by_cases e : ks.count c = 0
  · rw [if_pos e, e]
    rfl
  · rw [if_neg e]
    rfl
/-! ### which sets hold how many -/
def keyL (ls : List Nat) (f : Nat) (r : List Nat) : List Nat := srt (holdL ls r f)
/-- how many rows have this set of first live servers -/
def ldC (ls : List Nat) (f : Nat) (rows : List (List Nat)) (c : List Nat) : Nat := (rows.map (keyL ls f)).count c
/-! ### held_by_sets -/
def spHelds (P : Program) (w : World) (K : PySem.W.Frag) (CS : Addr) : Sp := fun vs H Q E => ∃ (a b : Addr) (ts : List V) (rows : List (List Nat)) (ls : List Nat) (f : Nat), vs = [.ref a, .ref b, .int f] ∧ SqT K H a ts ∧ RowsL K H ts rows ∧ SqT K H b (setV ls) ∧ rows.length ≤ 20000 ∧ (∀ r ∈ rows, r.length ≤ 60) ∧ ls.length ≤ 60 ∧ f ≤ ls.length ∧
  ((∀ r ∈ rows, f ≤ (inL ls r).length) → ∀ H' d, Same H H' → H d = none → DAt P w K H' d (tallyN ((rows.map (keyL ls f)).map nkT)) → Q (.ref d) H') ∧
  (∀ (i : Nat) (r : List Nat) (t : Addr), rows[i]? = some r → ts[i]? = some (.ref t) → (∀ x ∈ rows.take i, f ≤ (inL ls x).length) → ¬ f ≤ (inL ls r).length → Raised "order" CS (.ref t) H E)
section
variable {P : Program} {w : World} {K : PySem.W.Frag} {mg : Str → Option Value} {base : Heap}
theorem ok_helds (T : Txt K mg) {j : Nat} : FnOk P w K mg base (L2.CX P w) (j + 4) T.fHelds T.fdHelds ["table", "live", "factor"] (spHelds P w K T.cTooS) := by
  refine T.FHelds.okX scHelds (fun vs H Q E h => ?_) (fun cdv A outer s H vs Q E hr h => ?_)
  · obtain ⟨a, b, ts, rows, ls, f, rfl, _⟩ := h
    rfl
  · obtain ⟨a, b, ts, rows, ls, f, rfl, hA, R0, hB, hl, hrl, hll, hf, q1, q2⟩ := h
    have hu9 : (A.deeper (envOfC "held_by_sets" (defScope sHelds) s.heap.objs.size T.fHelds cdv)).units + 9 < cLine := by
      have := hr.un
      omega
    refine ⟨_, pss_cons (ps_set (i := 3) scHelds.nd rfl (.inl rfl) (pe_dnewN (P := P) (w := w))) (pss_cons (ps_for (passes_of rfl) rfl (pi_tup (pv 0)) (pg_name (i := 4) scHelds.nd rfl (.inl rfl)) (pss_cons (ps_set (i := 5) scHelds.nd rfl (.inl rfl) (pe_callTy (call_tupleK K) (by rfl) T.n_tuple (by decide +kernel) (pa_cons (pe_callB (cr_sortTI K) (by rfl) T.n_sorted (by decide +kernel) (pa_cons (pe_call (ok_hold T) hr (by rfl) T.gHold T.FHold.kp T.bHold .nil (passes_call (takes_of rfl rfl rfl rfl) (fun _ _ _ _ h => h)) (pa_cons (pv 4) (pa_cons (pv 1) (pa_cons (pv 2) pa_nil)))) pa_nil)) pa_nil))) (pss_one (ps_asg (pe_op op_add (pe_bmN (P := P) (w := w) PySem.F.slot_dict_get PySem.F.type_dict_get (mt_getDN (P := P) (w := w) K hu9) (pv 3) (pa_cons (pv 5) (pa_cons pe_int pa_nil))) pe_int) (pg_sub (pv 3) (pv 5) (set_dN (P := P) (w := w) K hu9)))))) (pss_one (ps_ret (pv 3)))), ?_⟩
    intro D nD
    refine ⟨.ref a, rfl, a, rfl, ⟨_, Same.seqT (same_new nD) hA⟩, for_tup (K := K) (a := a) (xs := ts) (fun i σ H3 => ∃ v4 v5, σ = [some (.ref a), some (.ref b), some (.int f), some (.ref D), v4, v5] ∧ Same H H3 ∧ DAt P w K H3 D (tallyN (((rows.take i).map (keyL ls f)).map nkT)) ∧ ∀ x ∈ rows.take i, f ≤ (inL ls x).length) ⟨none, none, rfl, same_new nD, ⟨[], upd_same, fun x hx => absurd hx List.not_mem_nil, rfl⟩, fun x hx => absurd hx List.not_mem_nil⟩ (fun i σ H3 _ ⟨_, _, _, s3, _⟩ => Same.seqT s3 hA) ?_ ?_⟩
    · rintro i v σ H3 hz ⟨v4, v5, rfl, s3, hD3, ok3⟩
      obtain ⟨r, hr2, t, rfl, hT⟩ := (R0.same s3).at hz
      have hrm := List.mem_of_getElem? hr2
      have em : min f ls.length = f := Nat.min_eq_left hf
      refine ⟨_, rfl, .ref b, rfl, _, rfl, t, b, r, ls, f, rfl, hT, Same.seqT s3 hB, hrl r hrm, hll, fun hle H4 th s4 nth hth => ?_, fun hlt => (q2 i r t hr2 hz ok3 (by omega)).on s3⟩
      rw [em] at hle hth
      have hhl : (holdL ls r f).length ≤ 60 := by
        rw [hold_len]
        omega
      refine ⟨th, intL (holdL ls r f), rfl, .inr (SqT.of (by rw [← setV_ints]; exact hth)), by rw [List.length_map]; omega, fun ns' q0 pm srtd nq0 => ?_⟩
      obtain ⟨ks, rfl, pk⟩ := ints_back pm
      rw [← setV_ints]
      obtain rfl : ks = keyL ls f r := srt_of pk (le_back srtd)
      refine ⟨q0, _, rfl, .inl ⟨SqL.of upd_same, fun tq ntq => ?_⟩⟩
      have s5 := (same_new (o := .lst (setV (keyL ls f r))) nq0).trans (same_new (o := .tup (setV (keyL ls f r))) ntq)
      have htq : (upd (upd H4 q0 (.lst (setV (keyL ls f r)))) tq (.tup (setV (keyL ls f r)))) tq = some (.tup (setV (keyL ls f r))) := upd_same
      have hD5 := hD3.same (s4.trans s5)
      have s35 := (s3.trans s4).trans s5
      dsimp only [gName]
      generalize upd (upd H4 q0 (.lst (setV (keyL ls f r)))) tq (.tup (setV (keyL ls f r))) = H5 at s5 htq hD5 s35
      have hk := nkT_at (SqT.of (K := K) htq)
      have dl := tally_len (((rows.take i).map (keyL ls f)).map nkT)
      rw [List.length_map, List.length_map, List.length_take] at dl
      have htg := tally_get ((rows.take i).map (keyL ls f)) (keyL ls f r)
      obtain ⟨xs5, e5, _⟩ := id hD5
      refine ⟨.ref D, rfl, ⟨D, xs5, rfl, e5⟩, .ref tq, rfl, D, tq, .int 0, _, nkT (keyL ls f r), rfl, rfl, hD5, hk, nkT_depth _, ?_⟩
      rw [htg]
      refine ⟨_, _, rfl, rfl, .ref D, rfl, .ref tq, rfl, D, tq, _, nkT (keyL ls f r), rfl, rfl, hD5, hk, nkT_depth _, by rw [sizeLine_eq]; omega, fun u hu => ?_⟩
      rw [tally_one] at hu
      refine ⟨_, _, rfl, keep_upd s35 nD, ?_, fun x hx => ?_⟩
      · rw [take_snoc hr2, List.map_append]
        exact hu
      · rw [take_snoc hr2] at hx
        rcases List.mem_append.mp hx with hx | hx
        · exact ok3 x hx
        · rw [List.mem_singleton.mp hx]
          exact hle
    · rintro σ H3 ⟨v4, v5, rfl, s3, hD3, ok3⟩
      rw [R0.len, List.take_length] at hD3 ok3
      exact ⟨.ref D, rfl, q1 ok3 _ D s3 nD hD3⟩
end
/-! ### loads -/
/-- a tuple of (members, many) -/
def LoadsAt (K : PySem.W.Frag) (H : Hp) (t : Addr) (cs : List (List Nat)) (g : List Nat → Nat) : Prop := ∃ us : List V, H t = some (.tup us) ∧ BegL K H us (cs.map fun c => (c, g c))
theorem LoadsAt.same {K : PySem.W.Frag} {H H' : Hp} {t : Addr} {cs : List (List Nat)} {g : List Nat → Nat} (s : Same H H') (h : LoadsAt K H t cs g) : LoadsAt K H' t cs g := by
  obtain ⟨us, h1, h2⟩ := h
  exact ⟨us, s _ _ h1, h2.same s⟩
def spLoads (K : PySem.W.Frag) (CS : Addr) : Sp := fun vs H Q E => ∃ (n : Nat) (a b : Addr) (ts : List V) (rows : List (List Nat)) (ls : List Nat) (f : Nat), vs = [.int n, .ref a, .ref b, .int f] ∧ SqT K H a ts ∧ RowsL K H ts rows ∧ SqT K H b (setV ls) ∧ rows.length ≤ 20000 ∧ (∀ r ∈ rows, r.length ≤ 60) ∧ ls.length ≤ 60 ∧ f ≤ ls.length ∧ (combs ls f).length ≤ 100000 ∧
  ((∀ r ∈ rows, f ≤ (inL ls r).length) → ∀ H' t, Same H H' → H t = none → LoadsAt K H' t (combs ls f) (ldC ls f rows) → Q (.ref t) H') ∧
  (∀ (i : Nat) (r : List Nat) (t : Addr), rows[i]? = some r → ts[i]? = some (.ref t) → (∀ x ∈ rows.take i, f ≤ (inL ls x).length) → ¬ f ≤ (inL ls r).length → Raised "order" CS (.ref t) H E)
section
variable {P : Program} {w : World} {K : PySem.W.Frag} {mg : Str → Option Value} {base : Heap}
theorem ok_loads (T : Txt K mg) {j : Nat} : FnOk P w K mg base (L2.CX P w) (j + 5) T.fLoads T.fdLoads ["n", "table", "live", "factor"] (spLoads K T.cTooS) := by
  refine T.FLoads.okX scLoads (fun vs H Q E h => ?_) (fun cdv A outer s H vs Q E hr h => ?_)
  · obtain ⟨n, a, b, ts, rows, ls, f, rfl, _⟩ := h
    rfl
  · obtain ⟨n, a, b, ts, rows, ls, f, rfl, hA, R0, hB, hl, hrl, hll, hf, hc, q1, q2⟩ := h
    have hu9 : (A.deeper (envOfC "loads" (defScope sLoads) s.heap.objs.size T.fLoads cdv)).units + 9 < cLine := by
      have := hr.un
      omega
    refine ⟨_, pss_cons (ps_set (i := 4) scLoads.nd rfl (.inr rfl) (pe_call (ok_helds T) hr (by rfl) T.gHelds T.FHelds.kp T.bHelds .nil (passes_call (takes_of rfl rfl rfl rfl) (fun _ _ _ _ h => h)) (pa_cons (pv 1) (pa_cons (pv 2) (pa_cons (pv 3) pa_nil))))) (pss_one (ps_ret (pe_callTy (call_tupleK K) (by rfl) T.n_tuple (by decide +kernel) (pa_cons (pe_lc (own := [("members", 5)]) (g := (gName 5)) (tt := tYes) rfl scLoads.nd (pi_list (pe_call (ok_among T) hr (by rfl) T.gAmong T.FAmong.kp T.bAmong .nil pass0 (pa_cons (pv 2) (pa_cons (pv 3) pa_nil)))) (blkOk_by (own := [("members", 5)]) (N := NLoads) (sc := defScope sLoads) (by decide +kernel)) (fun _ _ _ _ _ => (pg_name (i := 5) scLoads.nd rfl (.inl rfl))) (fun _ _ _ _ _ => pts_nil) (fun _ _ _ _ _ => (pe_tup (pa_cons (pv 5) (pa_cons (pe_bmN (P := P) (w := w) PySem.F.slot_dict_get PySem.F.type_dict_get (mt_getDN (P := P) (w := w) K hu9) (pv 4) (pa_cons (pv 5) (pa_cons pe_int pa_nil))) pa_nil))))) pa_nil)))), ?_⟩
    refine ⟨_, rfl, _, rfl, _, rfl, a, b, ts, rows, ls, f, rfl, hA, R0, hB, hl, hrl, hll, hf, fun ok H2 d s2 nd hD => ?_, q2⟩
    dsimp only [gName]
    refine ⟨_, rfl, _, rfl, b, ls, f, rfl, Same.seqT s2 hB, hll, by omega, hc, fun H3 p cs s3 np hp r3 => ?_⟩
    have hD3 := hD.same s3
    refine ⟨p, rfl, ⟨_, SqL.of hp⟩, fun D nDD => ?_⟩
    refine lc_list (K := K) (a := p) (xs := cs) (fun z H4 => ∃ us, Same H3 H4 ∧ H4 D = some (.lst us) ∧ BegL K H4 us (((combs ls f).take z).map fun c => (c, ldC ls f rows c))) ⟨[], same_new nDD, upd_same, .nil⟩ (fun _ H4 _ ⟨_, s4, _⟩ => SqL.of (s4 _ _ hp)) ?_ ?_
    · rintro z v H4 hz ⟨us, s4, hD4, r4⟩
      obtain ⟨c, hcz, t, rfl, hT⟩ := (r3.same s4).at hz
      have hk := nkT_at hT
      have hD5 := hD3.same s4
      obtain ⟨xs5, e5, _⟩ := id hD5
      have htg := tally_get (rows.map (keyL ls f)) c
      refine ⟨rfl, .ref t, rfl, .ref d, rfl, ⟨d, xs5, rfl, e5⟩, .ref t, rfl, d, t, .int 0, _, nkT c, rfl, rfl, hD5, hk, nkT_depth _, ?_⟩
      rw [htg]
      refine ⟨by show 2 ≤ sizeLine; decide, fun u nu => ?_⟩
      have s6 := same_new (o := .tup [V.ref t, V.int ((rows.map (keyL ls f)).count c : Nat)]) nu
      have hD6 := s6 _ _ hD4
      have ul := r4.len
      rw [List.length_map, List.length_take] at ul
      refine ⟨us, hD6, by rw [sizeLine_eq]; omega, us ++ [.ref u], keep_upd (s4.trans s6) nDD, upd_same, ?_⟩
      rw [take_snoc hcz, List.map_append]
      exact BegL.app ((r4.same s6).updL hD6) (.cons ⟨u, t, rfl, SqT_updL (SqT.of upd_same) hD6, SqT_updL (Same.seqT s6 hT) hD6⟩ .nil)
    · rintro H4 ⟨us, s4, hD4, r4⟩
      rw [r3.len, List.take_length] at r4
      refine ⟨D, _, rfl, .inl ⟨SqL.of hD4, fun t nt => ?_⟩⟩
      have s5 := same_new (o := .tup us) nt
      exact q1 ok _ t (((s2.trans s3).trans s4).trans s5) (((s2.trans s3).trans s4).free nt) ⟨us, upd_same, r4.same s5⟩
end
/-! ### dicts from servers to counts -/
abbrev kI (s : Nat) : Key := Sum.inl (s : Int)
def mapD (f : Nat → Nat) (ls : List Nat) : List (Key × V) := ls.map fun s => (kI s, V.int (f s : Int))
theorem kI_inj {a b : Nat} : kI a = kI b ↔ a = b := ⟨fun h => by have := Sum.inl.inj h; omega, fun h => by rw [h]⟩
theorem mapD_val {f : Nat → Nat} {s : Nat} : ∀ {ls : List Nat}, s ∈ ls → valV (mapD f ls) (kI s) = some (.int (f s : Int))
  | x :: ls, h => by
    unfold valV mapD
    rw [List.map_cons, List.find?_cons]
    by_cases e : x = s
    · subst e
      rw [decide_eq_true rfl]
      rfl
    · rw [show decide ((kI x, V.int (f x : Int)).1 = kI s) = false from decide_eq_false fun z => e (kI_inj.mp z)]
      refine mapD_val (ls := ls) ?_
      rcases List.mem_cons.mp h with z | z
      · exact absurd z.symm e
      · exact z
theorem mapD_any {f : Nat → Nat} {s : Nat} (ls : List Nat) : ((mapD f ls).any fun kv => decide (kv.1 = kI s)) = decide (s ∈ ls) := by
  unfold mapD
  rw [List.any_map]
  induction ls with
  | nil => rfl
  | cons x r ih =>
    rw [List.any_cons, ih]
    by_cases e : x = s
    · subst e
      rw [decide_eq_true (List.mem_cons_self), show ((fun kv => decide (kv.1 = kI x)) ∘ fun s => (kI s, V.int (f s : Int))) x = true from decide_eq_true rfl]
      rfl
    · rw [show ((fun kv => decide (kv.1 = kI s)) ∘ fun s => (kI s, V.int (f s : Int))) x = false from decide_eq_false fun z => e (kI_inj.mp z), Bool.false_or]
      refine decide_eq_decide.mpr ⟨fun h => List.mem_cons_of_mem _ h, fun h => ?_⟩
      rcases List.mem_cons.mp h with z | z
      · exact absurd z.symm e
      · exact z
theorem mapD_put {f : Nat → Nat} {s v : Nat} {ls : List Nat} (h : s ∈ ls) : putK (mapD f ls) (kI s) (.int (v : Int)) = mapD (fun x => if x = s then v else f x) ls := by
  unfold putK
  rw [mapD_any, decide_eq_true h, if_pos rfl]
  unfold mapD
  rw [List.map_map]
  refine List.map_congr_left fun x _ => ?_
  show (if (kI x, V.int (f x : Int)).1 = kI s then _ else _) = (kI x, V.int ((if x = s then v else f x : Nat) : Int))
  by_cases e : x = s
  · subst e
    rw [if_pos rfl, if_pos rfl]
  · rw [if_neg (fun z => e (kI_inj.mp z)), if_neg e]
theorem mapD_new {f : Nat → Nat} {s : Nat} {ls : List Nat} (h : s ∉ ls) : putK (mapD f ls) (kI s) (.int (f s : Int)) = mapD f (ls ++ [s]) := by
  unfold putK
  rw [mapD_any, decide_eq_false h, if_neg (by decide)]
  unfold mapD
  rw [List.map_append]
  rfl
/-! ### how many each server holds -/
def bump (f : Nat → Nat) (s : Nat) : Nat → Nat := fun x => if x = s then f s + 1 else f x
def bumps (f : Nat → Nat) (hs : List Nat) : Nat → Nat := hs.foldl bump f
theorem bumps_app (f : Nat → Nat) (a b : List Nat) : bumps f (a ++ b) = bumps (bumps f a) b := List.foldl_append
theorem bumps_snoc (f : Nat → Nat) (a : List Nat) (s : Nat) : bumps f (a ++ [s]) = bump (bumps f a) s := List.foldl_append
def ldF (ls : List Nat) (w : Nat) (rows : List (List Nat)) : Nat → Nat := bumps (fun _ => 0) (rows.flatMap fun r => holdL ls r w)
theorem sum_bump {f : Nat → Nat} {s : Nat} : ∀ {ls : List Nat}, ls.Nodup → s ∈ ls → (ls.map (bump f s)).sum = (ls.map f).sum + 1
  | x :: ls, hn, h => by
    obtain ⟨h1, h2⟩ := List.nodup_cons.mp hn
    rw [List.map_cons, List.sum_cons, List.map_cons, List.sum_cons]
    by_cases e : x = s
    · subst e
      have : ls.map (bump f x) = ls.map f := List.map_congr_left fun y hy => if_neg fun (z : y = x) => h1 (z ▸ hy)
      rw [this, show bump f x x = f x + 1 from if_pos rfl]
      omega
    · have hs : s ∈ ls := by
        rcases List.mem_cons.mp h with z | z
        · exact absurd z.symm e
        · exact z
      rw [sum_bump h2 hs, show bump f s x = f x from if_neg e]
      omega
theorem sum_bumps {ls : List Nat} (hn : ls.Nodup) : ∀ (hs : List Nat) (f : Nat → Nat), (∀ s ∈ hs, s ∈ ls) → (ls.map (bumps f hs)).sum = (ls.map f).sum + hs.length
  | [], f, _ => rfl
  | s :: hs, f, h => by
    show (ls.map (bumps (bump f s) hs)).sum = _
    rw [sum_bumps hn hs (bump f s) fun x hx => h x (List.mem_cons_of_mem _ hx), sum_bump hn (h s List.mem_cons_self)]
    show _ = _ + (hs.length + 1)
    omega
theorem flat_len {ls : List Nat} {w : Nat} : ∀ (rows : List (List Nat)), (∀ r ∈ rows, w ≤ (inL ls r).length) → (rows.flatMap fun r => holdL ls r w).length = rows.length * w
  | [], _ => by rw [List.flatMap_nil]; show 0 = 0 * w; omega
  | r :: rows, h => by
    rw [List.flatMap_cons, List.length_append, flat_len rows fun x hx => h x (List.mem_cons_of_mem _ hx), hold_len, Nat.min_eq_left (h r List.mem_cons_self)]
    show _ = (rows.length + 1) * w
    rw [Nat.succ_mul]
    omega
theorem ldF_sum {ls : List Nat} {w : Nat} {rows : List (List Nat)} (hn : ls.Nodup) (h : ∀ r ∈ rows, w ≤ (inL ls r).length) : (ls.map (ldF ls w rows)).sum = rows.length * w := by
  unfold ldF
  rw [sum_bumps hn, flat_len rows h]
  · have : ∀ l : List Nat, (l.map fun _ => 0).sum = 0 := fun l => by
      induction l with
      | nil => rfl
      | cons _ _ ih => rw [List.map_cons, List.sum_cons, ih]
    rw [this]
    omega
  · intro s hs
    obtain ⟨r, _, hr⟩ := List.mem_flatMap.mp hs
    exact (hold_mem hr).2
/-! ### server_loads -/
/-- pairs of a server and its number -/
def Prs (H : Hp) (g : Nat → Nat) (us : List V) (ls : List Nat) : Prop := PySem.Paired (fun v (s : Nat) => ∃ u, v = V.ref u ∧ H u = some (.tup [V.int (s : Int), V.int (g s : Int)])) us ls
theorem Prs.same {H H' : Hp} {g : Nat → Nat} {us : List V} {ls : List Nat} (s : Same H H') (h : Prs H g us ls) : Prs H' g us ls := PySem.Paired.mono (fun v x ⟨u, e, z⟩ => ⟨u, e, s _ _ z⟩) h
theorem Prs.updL {H : Hp} {g : Nat → Nat} {us ys : List V} {ls : List Nat} {D : Addr} {o : HO} (h : Prs H g us ls) (hD : H D = some (.lst ys)) : Prs (upd H D o) g us ls := PySem.Paired.mono (fun v x ⟨u, e, z⟩ => ⟨u, e, by rw [upd_ne (fun c => by rw [c, hD] at z; cases z)]; exact z⟩) h
theorem Prs.app {H : Hp} {g : Nat → Nat} {us vs : List V} {ls ms : List Nat} (h : Prs H g us ls) (k : Prs H g vs ms) : Prs H g (us ++ vs) (ls ++ ms) := by
  unfold Prs at *
  induction h with
  | nil => exact k
  | cons a _ ih => exact .cons a ih
theorem Prs.len {H : Hp} {g : Nat → Nat} {us : List V} {ls : List Nat} (h : Prs H g us ls) : us.length = ls.length := by
  unfold Prs at h
  induction h with
  | nil => rfl
  | cons _ _ ih => exact congrArg (· + 1) ih
def prsD (g : Nat → Nat) (ls : List Nat) : List PyData := ls.map fun (s : Nat) => PyData.tuple [.int (s : Int), .int (g s : Int)]
theorem Prs.dp {K : PySem.W.Frag} {H : Hp} {g : Nat → Nat} {us : List V} {ls : List Nat} (h : Prs H g us ls) : DpAll K H us (prsD g ls) := by
  unfold Prs at h
  induction h with
  | nil => exact .nil
  | cons a _ ih =>
    obtain ⟨u, rfl, e⟩ := a
    exact .cons (.tup (SqT.of e) (.cons (.int _) (.cons (.int _) .nil))) ih
/-- a tuple of (server, many) -/
def LoadAt (K : PySem.W.Frag) (H : Hp) (t : Addr) (ls : List Nat) (g : Nat → Nat) : Prop := ∃ (us : List V) (o : Obj), o.dict = none ∧ H t = some (.frz o (.tup us)) ∧ Prs H g us ls
abbrev okRow (ls : List Nat) (w : Nat) (r : List Nat) : Prop := w ≤ (inL ls r).length
def spSLoads (K : PySem.W.Frag) (CS : Addr) : Sp := fun vs H Q E => ∃ (n : Nat) (a b : Addr) (ts : List V) (rows : List (List Nat)) (ls : List Nat) (f : Nat), vs = [.int n, .ref a, .ref b, .int f] ∧ SqT K H a ts ∧ RowsL K H ts rows ∧ SqT K H b (setV ls) ∧ rows.length ≤ 1000 ∧ (∀ r ∈ rows, r.length ≤ 60) ∧ ls.length ≤ 60 ∧ ls.Nodup ∧
  ((∀ r ∈ rows, okRow ls (min f ls.length) r) → ∀ H' t, Same H H' → H t = none → LoadAt K H' t ls (ldF ls (min f ls.length) rows) → Q (.ref t) H') ∧
  (∀ (i : Nat) (r : List Nat) (t : Addr), rows[i]? = some r → ts[i]? = some (.ref t) → (∀ x ∈ rows.take i, okRow ls (min f ls.length) x) → ¬ okRow ls (min f ls.length) r → Raised "order" CS (.ref t) H E)
section
variable {P : Program} {w : World} {K : PySem.W.Frag} {mg : Str → Option Value} {base : Heap}
theorem ok_sloads (T : Txt K mg) {j : Nat} : FnOk P w K mg base (L2.CX P w) (j + 4) T.fSLoads T.fdSLoads ["n", "table", "live", "factor"] (spSLoads K T.cTooS) := by
  refine T.FSLoads.okX scSLoads (fun vs H Q E h => ?_) (fun cdv A outer s H vs Q E hr h => ?_)
  · obtain ⟨n, a, b, ts, rows, ls, f, rfl, _⟩ := h
    rfl
  · obtain ⟨n, a, b, ts, rows, ls, f, rfl, hA, R0, hB, hl, hrl, hll, hnd, q1, q2⟩ := h
    refine ⟨_, pss_cons (ps_set (i := 4) scSLoads.nd rfl (.inr rfl) (pe_dc (own := [("server", 5)]) (g := gName 5) (tt := tYes) rfl scSLoads.nd (pi_tup (pv 2)) (blkOk_by (own := [("server", 5)]) (N := NSLoads) (sc := defScope sSLoads) (by decide +kernel)) (fun _ _ _ _ _ => (pg_name (i := 5) scSLoads.nd rfl (.inl rfl))) (fun _ _ _ _ _ => pts_nil) (fun _ _ _ _ _ => (pv 5)) (fun _ _ _ _ _ => pe_int))) (pss_cons (ps_for (passes_of rfl) rfl (pi_tup (pv 1)) (pg_name (i := 6) scSLoads.nd rfl (.inl rfl)) (pss_one (ps_for (passes_of rfl) rfl (pi_tup (pe_call (ok_hold T) hr (by rfl) T.gHold T.FHold.kp T.bHold .nil (passes_call (takes_of rfl rfl rfl rfl) (fun _ _ _ _ h => h)) (pa_cons (pv 6) (pa_cons (pv 2) (pa_cons (pv 3) pa_nil))))) (pg_name (i := 5) scSLoads.nd rfl (.inl rfl)) (pss_one (ps_daug (hu_of hr) (pv 4) (pv 5) pe_int in_add (fun _ _ _ => rfl)))))) (pss_one (ps_ret (pe_callTy (call_tupleF K) (by rfl) T.n_tuple (by decide +kernel) (pa_cons (pe_lc (own := [("server", 5)]) (g := (gName 5)) (tt := tYes) rfl scSLoads.nd (pi_tup (pv 2)) (blkOk_by (own := [("server", 5)]) (N := NSLoads) (sc := defScope sSLoads) (by decide +kernel)) (fun _ _ _ _ _ => (pg_name (i := 5) scSLoads.nd rfl (.inl rfl))) (fun _ _ _ _ _ => pts_nil) (fun _ _ _ _ _ => (pe_tup (pa_cons (pv 5) (pa_cons (pe_dget (hu_of hr) (pv 4) (pv 5) (fun _ _ => rfl)) pa_nil))))) pa_nil))))), ?_⟩
    refine ⟨.ref b, rfl, b, rfl, ⟨_, hB⟩, fun D nD => ?_⟩
    refine dc_tup (a := b) (xs := setV ls) (fun z H2 => Same H H2 ∧ H2 D = some (.dK (mapD (fun _ => 0) (ls.take z)))) ⟨same_new nD, upd_same⟩ (fun _ H2 _ h => Same.seqT h.1 hB) ?_ ?_
    · rintro z v H2 hz ⟨s2, hD⟩
      obtain ⟨m, hm, rfl⟩ := setV_get hz
      refine ⟨rfl, _, rfl, _, kI m, rfl, hD, ?_, keep_upd s2 nD, ?_⟩
      · unfold mapD
        rw [List.length_map, List.length_take]
        exact small1000 (by omega)
      · have hne : m ∉ ls.take z := fun hx => by
          obtain ⟨i, hi⟩ := List.getElem?_of_mem hx
          rw [List.getElem?_take] at hi
          split at hi
          · have := nodup_inj hnd hi hm
            omega
          · cases hi
        rw [upd_same, List.take_add_one, hm]
        exact congrArg (fun x => some (HO.dK x)) (mapD_new (f := fun _ => 0) hne)
    rintro H2 ⟨s2, hD⟩
    rw [setV_len, List.take_length] at hD
    refine ⟨.ref a, rfl, a, rfl, ⟨_, Same.seqT s2 hA⟩, for_tup (K := K) (a := a) (xs := ts) (fun i σ H3 => ∃ v5 v6, σ = [some (.int n), some (.ref a), some (.ref b), some (.int f), some (.ref D), v5, v6] ∧ Same H H3 ∧ H3 D = some (.dK (mapD (ldF ls (min f ls.length) (rows.take i)) ls)) ∧ ∀ x ∈ rows.take i, okRow ls (min f ls.length) x) ⟨none, none, rfl, s2, hD, fun x hx => absurd hx List.not_mem_nil⟩ (fun i σ H3 _ ⟨_, _, _, s3, _⟩ => Same.seqT s3 hA) ?_ ?_⟩
    · rintro i v σ H3 hz ⟨v5, v6, rfl, s3, hD3, ok3⟩
      obtain ⟨r, hr2, t, rfl, hT⟩ := (R0.same s3).at hz
      have hrm := List.mem_of_getElem? hr2
      refine ⟨_, rfl, .ref b, rfl, _, rfl, t, b, r, ls, f, rfl, hT, Same.seqT s3 hB, hrl r hrm, hll, fun hle H4 th s4 nth hth => ?_, fun hlt => (q2 i r t hr2 hz ok3 (by unfold okRow; omega)).on s3⟩
      have e1 : ldF ls (min f ls.length) (rows.take (i + 1)) = bumps (ldF ls (min f ls.length) (rows.take i)) (holdL ls r (min f ls.length)) := by
        unfold ldF
        rw [fm_step hr2, bumps_app]
      have ok4 : ∀ x ∈ rows.take (i + 1), okRow ls (min f ls.length) x := fun x hx => by
        rw [List.take_add_one, hr2] at hx
        rcases List.mem_append.mp hx with hx | hx
        · exact ok3 x hx
        · rw [List.mem_singleton.mp hx]
          exact hle
      rw [e1]
      have hm0 : ∀ m ∈ holdL ls r (min f ls.length), m ∈ ls := fun m hm => (hold_mem hm).2
      generalize ldF ls (min f ls.length) (rows.take i) = g at hD3
      generalize holdL ls r (min f ls.length) = hs at hth hm0
      refine ⟨th, rfl, ⟨_, SqT.of hth⟩, for_tup (K := K) (a := th) (xs := setV hs) (fun z σ H5 => ∃ v5, σ = [some (.int n), some (.ref a), some (.ref b), some (.int f), some (.ref D), v5, some (.ref t)] ∧ Same H H5 ∧ H5 th = some (.tup (setV hs)) ∧ H5 D = some (.dK (mapD (bumps g (hs.take z)) ls))) ⟨v5, rfl, s3.trans s4, hth, s4 _ _ hD3⟩ (fun z σ H5 _ ⟨_, _, _, h, _⟩ => SqT.of h) ?_ ?_⟩
      · rintro z v σ H5 hz5 ⟨v5, rfl, s5, hth5, hD5⟩
        obtain ⟨m, hm, rfl⟩ := setV_get hz5
        have hml := hm0 m (List.mem_of_getElem? hm)
        have dg : DGet H5 D (.int (m : Int)) (some (.int ((bumps g (hs.take z) m : Nat) : Int))) := by
          have := DGet.k (k := kI m) hD5
          rw [mapD_val hml] at this
          exact this
        have ndt : th ≠ D := fun e => by
          rw [e, hD5] at hth5
          cases hth5
        refine ⟨.ref D, rfl, _, rfl, D, _, rfl, dg, _, _, rfl, rfl, _, DPut.k (k := kI m) hD5 (by unfold mapD; rw [List.length_map]; exact small1000 (by omega)), _, rfl, keep_upd s5 nD, ?_, ?_⟩
        · rw [upd_ne ndt]
          exact hth5
        · rw [upd_same, List.take_add_one, hm]
          show some (HO.dK (putK _ _ (V.int (((bumps g (hs.take z) m : Nat) : Int) + 1)))) = _
          rw [show ((bumps g (hs.take z) m : Nat) : Int) + 1 = ((bumps g (hs.take z) m + 1 : Nat) : Int) from rfl, mapD_put hml]
          show _ = some (HO.dK (mapD (bumps g (hs.take z ++ [m])) ls))
          rw [bumps_snoc]
          rfl
      · rintro σ H5 ⟨v5, rfl, s5, hth5, hD5⟩
        rw [setV_len, List.take_length] at hD5
        exact ⟨_, _, rfl, s5, hD5, ok4⟩
    · rintro σ H3 ⟨v5, v6, rfl, s3, hD3, ok3⟩
      rw [R0.len, List.take_length] at hD3 ok3
      refine ⟨.ref b, rfl, b, rfl, ⟨_, Same.seqT s3 hB⟩, fun D2 nD2 => ?_⟩
      refine lc_tup (a := b) (xs := setV ls) (fun z H4 => ∃ us, Same H3 H4 ∧ H4 D2 = some (.lst us) ∧ Prs H4 (ldF ls (min f ls.length) rows) us (ls.take z)) ⟨[], same_new nD2, upd_same, .nil⟩ (fun _ H4 _ ⟨_, h, _⟩ => Same.seqT (s3.trans h) hB) ?_ ?_
      · rintro z v H4 hz ⟨us, s4, hD4, pr⟩
        obtain ⟨m, hm, rfl⟩ := setV_get hz
        have hml := List.mem_of_getElem? hm
        have dg : DGet H4 D (.int (m : Int)) (some (.int ((ldF ls (min f ls.length) rows m : Nat) : Int))) := by
          have := DGet.k (k := kI m) (s4 _ _ hD3)
          rw [mapD_val hml] at this
          exact this
        refine ⟨rfl, _, rfl, .ref D, rfl, _, rfl, D, _, rfl, dg, by show 2 ≤ sizeLine; decide, fun u nu => ?_⟩
        have s5 := same_new (o := .tup [V.int (m : Int), V.int ((ldF ls (min f ls.length) rows m : Nat) : Int)]) nu
        have hD5 := s5 _ _ hD4
        have pl := pr.len
        rw [List.length_take] at pl
        have nuD : u ≠ D2 := fun e => by
          rw [e, hD4] at nu
          cases nu
        refine ⟨us, hD5, small1000 (by omega), us ++ [.ref u], keep_upd (s4.trans s5) nD2, upd_same, ?_⟩
        rw [List.take_add_one, hm]
        exact Prs.app ((pr.same s5).updL hD5) (.cons ⟨u, rfl, by rw [upd_ne nuD, upd_same]⟩ .nil)
      · rintro H4 ⟨us, s4, hD4, pr⟩
        rw [setV_len, List.take_length] at pr
        refine ⟨D2, _, rfl, SqL.of hD4, fun t o nt ho => ?_⟩
        have s5 := same_new (o := .frz o (.tup us)) nt
        exact q1 ok3 _ t ((s3.trans s4).trans s5) ((s3.trans s4).free nt) ⟨us, o, ho, upd_same, pr.same s5⟩
end
/-! ### check_reached -/
theorem cut_takeR (xs : List V) (j : Nat) : cutV xs none (some (j : Int)) = xs.take j := by
  unfold cutV
  rw [HT.sIx_none, show HT.sIx xs.length xs.length (some (j : Int)) = min j xs.length from HT.sIx_nat xs.length xs.length j]
  show ((xs.drop 0).take (min j xs.length - 0)) = xs.take j
  rw [List.drop_zero, Nat.sub_zero, ← List.take_eq_take_min]
def spChkR (K : PySem.W.Frag) (CS : Addr) : Sp := fun vs H Q E => ∃ (n f k : Nat) (a : Addr) (ts : List V) (rows : List (List Nat)), vs = [.int n, .ref a, .int f, .int k] ∧ SqT K H a ts ∧ RowsL K H ts rows ∧
  ((∀ r, rows.head? = some r → min n (f + k) ≤ r.length) → ∀ H', Same H H' → Q .non H') ∧
  (∀ (r : List Nat) (t : Addr), rows.head? = some r → ts.head? = some (.ref t) → r.length < min n (f + k) → Raised "order" CS (.ref t) H E)
section
variable {P : Program} {w : World} {K : PySem.W.Frag} {mg : Str → Option Value} {base : Heap}
theorem ok_chkr (T : Txt K mg) {j : Nat} : FnOk P w K mg base (L2.CX P w) (j + 3) T.fChkR T.fdChkR ["n", "table", "failures", "factor"] (spChkR K T.cTooS) := by
  refine T.FChkR.okX scChkR (fun vs H Q E h => ?_) (fun cdv A outer s H vs Q E hr h => ?_)
  · obtain ⟨n, f, k, a, ts, rows, rfl, _⟩ := h
    rfl
  · obtain ⟨n, f, k, a, ts, rows, rfl, hA, R0, q1, q2⟩ := h
    refine ⟨_, pss_one (ps_for (passes_of rfl) rfl (pi_tup (pe_slice (sl_tupS K) (pv 1) po_none (po_some pe_int))) (pg_name (i := 4) scChkR.nd rfl (.inl rfl)) (pss_one (ps_if (pt_cmpR op_lt (pe_callB (call_lenK K) (by rfl) T.n_len PySem.boot_len (pa_cons (pv 4) pa_nil)) (pe_call (ok_reachof T) hr (by rfl) T.gReachOf T.FReachOf.kp T.bReachOf .nil pass0 (pa_cons (pv 0) (pa_cons (pv 2) (pa_cons (pv 3) pa_nil)))) (nomark _)) (pss_one (ps_raise rfl (takes_of rfl rfl rfl rfl) (pmk_oex T.eTooS.ox T.eTooS.iC T.eTooS.tI (ok_toos T) hr T.bTooS .nil pass0 (by rfl) T.gcTooS (pa_cons (pv 4) pa_nil)))) pss_nil))), ?_⟩
    refine ⟨.ref a, rfl, _, rfl, a, _, rfl, hA, fun p H1 s1 hp => ?_⟩
    rw [show (1 : Int) = ((1 : Nat) : Int) from rfl, cut_takeR] at hp
    refine ⟨p, rfl, ⟨_, hp⟩, for_tup (K := K) (a := p) (xs := ts.take 1) (fun i σ H2 => ∃ v4, σ = [some (.int n), some (.ref a), some (.int f), some (.int k), v4] ∧ Same H1 H2 ∧ (i = 1 → ∀ r, rows.head? = some r → min n (f + k) ≤ r.length)) ⟨none, rfl, Same.refl _, fun z => absurd z (by decide)⟩ (fun i σ H2 _ ⟨_, _, s2, _⟩ => Same.seqT s2 hp) ?_ ?_⟩
    · rintro i v σ H2 hz ⟨v4, rfl, s2, ok⟩
      rw [List.getElem?_take] at hz
      split at hz
      · rename_i hi
        obtain rfl : i = 0 := by omega
        have s02 := s1.trans s2
        obtain ⟨r, hr0, t, rfl, ht⟩ := (R0.same s02).at hz
        have e1 : rows.head? = some r := by rw [List.head?_eq_getElem?]; exact hr0
        have e2 : ts.head? = some (.ref t) := by rw [List.head?_eq_getElem?]; exact hz
        refine ⟨.ref t, rfl, t, _, rfl, .inr ht, _, rfl, _, rfl, _, rfl, n, f, k, rfl, _, _, rfl, rfl, _, rfl, ite2 (fun h1 => ?_) (fun h1 => ?_)⟩
        · have h2 : r.length < min n (f + k) := by
            have h3 : ((setV r).length : Int) < ((min n (f + k) : Nat) : Int) := of_decide_eq_true h1
            rw [setV_len] at h3
            omega
          refine ⟨.ref t, rfl, (by show 1 ≤ 1000; decide), fun e ne => ⟨e, .ref t, rfl, upd_same, fun dx nd nx => ?_⟩⟩
          obtain ⟨x1, x2, x3, x4, x5⟩ := err_end (f := "order") (v := .ref t) ne nd nx
          exact ⟨rfl, dx, _, x1, x2, x3, q2 r t e1 e2 h2 _ dx (s02.trans x4) x5 (s02.free x3)⟩
        · refine ⟨_, rfl, s2, fun _ r' hr' => ?_⟩
          rw [e1] at hr'
          obtain rfl := Option.some.inj hr'
          have h3 : ¬ ((setV r).length : Int) < ((min n (f + k) : Nat) : Int) := fun z => h1 (decide_eq_true z)
          rw [setV_len] at h3
          omega
      · cases hz
    · rintro σ H2 ⟨v4, rfl, s2, ok⟩
      refine q1 (fun r hr => ?_) _ (s1.trans s2)
      refine ok ?_ r hr
      have : rows ≠ [] := fun e => by
        rw [e] at hr
        cases hr
      have h1 := List.length_pos_iff.mpr this
      rw [List.length_take, R0.len]
      omega
end
/-! ### first_uneven_level -/
/-- the first level below a reach that is not equal -/
def unevE (n c : Nat) (rows : List (List Nat)) : V := if reachE n c rows = c then .non else .int (reachE n c rows : Nat)
def spFULev (K : PySem.W.Frag) : Sp := fun vs H Q _ => ∃ (n f k d : Nat) (a : Addr) (ts : List V) (rows : List (List Nat)), vs = [.int n, .ref a, .int f, .int k] ∧ SqT K H a ts ∧ RowsL K H ts rows ∧ rows.length ≤ 20000 ∧ Good n d rows ∧ n ≤ 60 ∧ d ≤ n ∧ min n (f + k) ≤ d ∧
  ∀ H', Same H H' → Q (unevE n (min n (f + k)) rows) H'
section
variable {P : Program} {w : World} {K : PySem.W.Frag} {mg : Str → Option Value} {base : Heap}
theorem ok_fulev (T : Txt K mg) {j : Nat} : FnOk P w K mg base CX0 (j + 4) T.fFULev T.fdFULev ["n", "table", "failures", "factor"] (spFULev K) := by
  refine T.FFULev.ok scFULev (fun vs H Q E h => ?_) (fun cdv A outer s H vs Q E hr h => ?_)
  · obtain ⟨n, f, k, d, a, ts, rows, rfl, _⟩ := h
    rfl
  · obtain ⟨n, f, k, d, a, ts, rows, rfl, hA, R0, hl, G0, hn, hd, hc, q⟩ := h
    refine ⟨_, pss_cons (ps_for PassesOwn.never rfl (pi_range1 (by rfl) T.n_range (pa_cons (pe_call (ok_reachof T) hr (by rfl) T.gReachOf T.FReachOf.kp T.bReachOf .nil pass0 (pa_cons (pv 0) (pa_cons (pv 2) (pa_cons (pv 3) pa_nil)))) pa_nil)) (pg_name (i := 4) scFULev.nd rfl (.inl rfl)) (pss_one (ps_if (pt_not (pt_val (pe_call (ok_islev T) hr (by rfl) T.gIsLev T.FIsLev.kp T.bIsLev .nil pass0 (pa_cons (pv 0) (pa_cons (pv 1) (pa_cons (pv 4) pa_nil)))))) (pss_one (ps_ret (pv 4))) pss_nil))) (pss_one (ps_ret pe_non)), ?_⟩
    refine ⟨_, rfl, _, rfl, _, rfl, n, f, k, rfl, _, rfl, by omega, by omega, ?_⟩
    generalize hcc : min n (f + k) = c at hc q
    refine for_range (lo := 0) (n := (c : Int).toNat) (fun i σ H2 => ∃ v4, σ = [some (.int n), some (.ref a), some (.int f), some (.int k), v4] ∧ Same H H2 ∧ ∀ j, j < i → levB n j (edgesL j rows) = true) ⟨none, rfl, Same.refl H, fun j hj => absurd hj (by omega)⟩ ?_ ?_
    · rintro i σ H2 hi ⟨v4, rfl, s2, ok⟩
      rw [Int.toNat_natCast] at hi
      rw [Int.zero_add]
      refine ⟨_, rfl, .ref a, rfl, _, rfl, n, a, ts, rows, i, d, rfl, Same.seqT s2 hA, R0.same s2, hl, G0, hn, hd, by omega, fun H3 s3 => ⟨_, rfl, ?_⟩⟩
      cases e : levB n i (edgesL i rows) with
      | false =>
        refine iteT ⟨_, rfl, ?_⟩
        have := q H3 (s2.trans s3)
        unfold unevE at this
        rw [reach_at hi ok e, if_neg (by omega)] at this
        exact this
      | true =>
        refine iteF ⟨_, rfl, s2.trans s3, fun j hj => ?_⟩
        by_cases c : j = i
        · rw [c]
          exact e
        · exact ok j (by omega)
    · rintro σ H2 ⟨v4, rfl, s2, ok⟩
      rw [Int.toNat_natCast] at ok
      have := q H2 s2
      unfold unevE at this
      rw [reach_all ok, if_pos rfl] at this
      exact this
end
/-! ### is_even -/
def spIsEven (K : PySem.W.Frag) (CS : Addr) : Sp := fun vs H Q E => ∃ (n f k d : Nat) (a : Addr) (ts : List V) (rows : List (List Nat)), vs = [.int n, .ref a, .int f, .int k] ∧ SqT K H a ts ∧ RowsL K H ts rows ∧ rows.length ≤ 20000 ∧ Good n d rows ∧ n ≤ 60 ∧ d ≤ n ∧
  (min n (f + k) ≤ d → ∀ H', Same H H' → Q (.bl (decide (reachE n (min n (f + k)) rows = min n (f + k)))) H') ∧
  (∀ t : Addr, ts.head? = some (.ref t) → d < min n (f + k) → Raised "order" CS (.ref t) H E)
section
variable {P : Program} {w : World} {K : PySem.W.Frag} {mg : Str → Option Value} {base : Heap}
theorem ok_iseven (T : Txt K mg) {j : Nat} : FnOk P w K mg base (L2.CX P w) (j + 5) T.fIsEven T.fdIsEven ["n", "table", "failures", "factor"] (spIsEven K T.cTooS) := by
  refine T.FIsEven.okX scIsEven (fun vs H Q E h => ?_) (fun cdv A outer s H vs Q E hr h => ?_)
  · obtain ⟨n, f, k, d, a, ts, rows, rfl, _⟩ := h
    rfl
  · obtain ⟨n, f, k, d, a, ts, rows, rfl, hA, R0, hl, G0, hn, hd, q1, q2⟩ := h
    refine ⟨_, pss_cons (ps_expr (pe_call (ok_chkr T) hr (by rfl) T.gChkR T.FChkR.kp T.bChkR .nil (passes_call (takes_of rfl rfl rfl rfl) (fun _ _ _ _ h => h)) (pa_cons (pv 0) (pa_cons (pv 1) (pa_cons (pv 2) (pa_cons (pv 3) pa_nil)))))) (pss_one (ps_ret (pe_cmpR op_isN (pe_call (ok_fulev T) hr (by rfl) T.gFULev T.FFULev.kp T.bFULev .nil pass0 (pa_cons (pv 0) (pa_cons (pv 1) (pa_cons (pv 2) (pa_cons (pv 3) pa_nil))))) pe_non (nomark _)))), ?_⟩
    have hlen : ∀ r, rows.head? = some r → r.length = d := fun r hr => (G0.2 r (List.mem_of_mem_head? hr)).1
    refine ⟨_, rfl, .ref a, rfl, _, rfl, _, rfl, n, f, k, a, ts, rows, rfl, hA, R0, fun ok H1 s1 => ?_, fun r t h1 h2 h3 => q2 t h2 (by rw [← hlen r h1]; exact h3)⟩
    have hc : min n (f + k) ≤ d := by
      obtain ⟨r, rs, e⟩ := List.exists_cons_of_ne_nil G0.1
      have h1 : rows.head? = some r := by rw [e]; rfl
      rw [← hlen r h1]
      exact ok r h1
    refine ⟨_, rfl, .ref a, rfl, _, rfl, _, rfl, n, f, k, d, a, ts, rows, rfl, Same.seqT s1 hA, R0.same s1, hl, G0, hn, hd, hc, fun H2 s2 => ?_⟩
    have := q1 hc H2 (s1.trans s2)
    have e : decide (unevE n (min n (f + k)) rows = .non) = decide (reachE n (min n (f + k)) rows = min n (f + k)) := by
      unfold unevE
      by_cases c : reachE n (min n (f + k)) rows = min n (f + k)
      · rw [if_pos c, decide_eq_true c]
        rfl
      · rw [if_neg c, decide_eq_false c]
        rfl
    rw [← e] at this
    exact ⟨rfl, this⟩
end
/-! ### servers_by_level_number -/
def nbE (es : List Edge) (S : List Nat) (x : Nat) : Nat := cntE es (srt (S.erase x), x)
theorem nkE_back {K : PySem.W.Frag} {H : Hp} {u : Addr} {e : Edge} (h : NkAt K H (nkE e) (.ref u)) : ∃ t, SqT K H u [.ref t, .int (e.2 : Int)] ∧ SqT K H t (setV e.1) := by
  unfold nkE at h
  cases h with
  | tup h1 h2 =>
    cases h2 with
    | cons a1 a2 =>
      cases a2 with
      | cons b1 b2 =>
        cases b2
        cases b1
        cases a1 with
        | tup c1 c2 =>
          refine ⟨_, h1, ?_⟩
          have key : ∀ (l : List Nat) (vs : List V), NkAll K H (l.map fun (m : Nat) => NestedKey.num (m : Int)) vs → vs = setV l := by
            intro l
            induction l with
            | nil => intro vs h; cases h; rfl
            | cons m l ih =>
              intro vs h
              rw [List.map_cons] at h
              cases h with
              | cons x1 x2 =>
                cases x1
                rw [ih _ x2]
                rfl
          rw [← key _ _ c2]
          exact c1
theorem nkE_refS {K : PySem.W.Frag} {H : Hp} {e : Edge} {v : V} (h : NkAt K H (nkE e) v) : ∃ b, v = .ref b := by
  unfold nkE at h
  cases h
  exact ⟨_, rfl⟩
theorem nkE_count (es : List Edge) (e : Edge) : (es.map nkE).count (nkE e) = cntE es e := by
  refine (map_countG nkE nkE_inj es e).trans ?_
  rfl
theorem tallyE_get (es : List Edge) (e : Edge) : (valV (tallyE es) (nkE e)).getD (.int 0) = .int (cntE es e : Nat) := tally_getG nkE nkE_inj es e
theorem flt_snoc {S : List Nat} {z m x : Nat} (h : S[z]? = some m) : (S.take (z + 1)).filter (fun y => !decide (y = x)) = (S.take z).filter (fun y => !decide (y = x)) ++ if decide (m = x) = true then [] else [m] := by
  rw [take_snoc h, List.filter_append]
  congr 1
  by_cases c : m = x
  · simp [c]
  · simp [c]
def spNof (P : Program) (w : World) (K : PySem.W.Frag) (ws : List (Option V)) : Sp := fun vs H Q _ => ∃ (d sv : Addr) (S : List Nat) (es : List Edge) (x : Nat), ws = [some (.ref d), some (.ref sv)] ∧ vs = [.int x] ∧ DAt P w K H d (tallyE es) ∧ SqT K H sv (setV S) ∧ S.length ≤ 61 ∧
  ∀ H', Same H H' → Q (.int (cntE es (S.filter fun y => !decide (y = x), x) : Nat)) H'
section
variable {P : Program} {w : World} {K : PySem.W.Frag} {mg : Str → Option Value} {base : Heap}
theorem nok_sbl_number_of (T : Txt K mg) (f c' : Addr) (cl : List (Str × Addr)) {j : Nat} : NdefX.NOk P w K mg base CX0 (j + 1) f ⟨"number_of", ("servers_by_level_number" : Str) ++ ".<locals>." ++ "number_of", defArgs sSbl_number_of, defBody sSbl_number_of, defScope sSbl_number_of, cl, c'⟩ ["server"] ["numbers", "servers"] (spNof P w K) := by
  refine nok_ofC nscSbl_number_of (fun _ _ _ _ => rfl) (fun ws vs H Q E h => ?_) (fun A outer s H v ws Q E hr _ _ _ h => ?_)
  · obtain ⟨d, sv, S, es, x, _, rfl, _⟩ := h
    rfl
  · obtain ⟨d, sv, S, es, x, rfl, ev, hD, hS, hl, q⟩ := h
    obtain rfl : v = .int x := by
      injection ev with ev
    have hu9 := u9_of hr
    refine ⟨_, pss_cons (ps_set (i := 3) nscSbl_number_of.nd rfl (.inl rfl) (pe_callTy (call_tupleK K) (by rfl) T.n_tuple (by decide +kernel) (pa_cons (pe_lc (own := [("other", 4)]) (g := (gName 4)) rfl nscSbl_number_of.nd (pi_tup (pv 2)) (blkOk_by (own := [("other", 4)]) (N := NSbl_number_of) (sc := defScope sSbl_number_of) (by decide +kernel)) (fun _ _ _ _ _ => (pg_name (i := 4) nscSbl_number_of.nd rfl (.inl rfl))) (fun _ _ _ _ _ => pts_one (pt_cmpR op_ne (pv 4) (pv 0) (nomark _))) (fun _ _ _ _ _ => (pv 4))) pa_nil))) (pss_one (ps_ret (pe_bmN (P := P) (w := w) PySem.F.slot_dict_get PySem.F.type_dict_get (mt_getDN (P := P) (w := w) K hu9) (pv 1) (pa_cons (pe_tup (pa_cons (pv 3) (pa_cons (pv 0) pa_nil))) (pa_cons pe_int pa_nil))))), ?_⟩
    refine ⟨.ref sv, rfl, sv, rfl, ⟨_, hS⟩, fun D nD => ?_⟩
    refine lc_tup (a := sv) (xs := setV S) (fun z H3 => Same H H3 ∧ H3 D = some (.lst (setV ((S.take z).filter fun y => !decide (y = x))))) ⟨same_new nD, upd_same⟩ (fun _ H3 _ h3 => Same.seqT h3.1 hS) ?_ ?_
    · rintro z v H3 hz ⟨s3, hD3⟩
      obtain ⟨m, hm, rfl⟩ := setV_get hz
      have fl := List.length_filter_le (fun y => !decide (y = x)) (S.take z)
      rw [List.length_take] at fl
      refine ⟨rfl, _, rfl, _, rfl, rfl, _, rfl, ?_⟩
      rw [flt_snoc hm]
      have cv : (V.int (m : Int) = V.int (x : Int)) ↔ m = x := ⟨fun z => by injection z with z; omega, fun z => by rw [z]⟩
      refine ite2 (fun hb => ?_) (fun hb => ?_)
      · have c : ¬ m = x := fun z => by
          rw [decide_eq_true (cv.mpr z)] at hb
          cases hb
        refine ⟨_, rfl, _, hD3, by rw [setV_len, sizeLine_eq]; omega, keep_upd s3 nD, ?_⟩
        rw [upd_same, if_neg (by simpa using c), setV_app]
        rfl
      · have c : m = x := Classical.byContradiction fun z => hb (by rw [decide_eq_false (fun q => z (cv.mp q))]; rfl)
        refine ⟨s3, ?_⟩
        rw [if_pos (decide_eq_true c), List.append_nil]
        exact hD3
    rintro H3 ⟨s3, hD3⟩
    rw [setV_len, List.take_length] at hD3
    refine ⟨D, _, rfl, .inl ⟨SqL.of hD3, fun p np => ?_⟩⟩
    dsimp only [gName]
    have s4 := s3.trans (same_new (o := .tup (setV (S.filter fun y => !decide (y = x)))) np)
    have hp : (upd H3 p (.tup (setV (S.filter fun y => !decide (y = x))))) p = some (.tup (setV (S.filter fun y => !decide (y = x)))) := upd_same
    generalize upd H3 p (.tup (setV (S.filter fun y => !decide (y = x)))) = H4 at s4 hp ⊢
    have hD4 := hD.same s4
    obtain ⟨xs4, e4, _⟩ := id hD4
    refine ⟨.ref d, rfl, ⟨d, xs4, rfl, e4⟩, _, rfl, _, rfl, (by show 2 ≤ sizeLine; decide), fun p2 n2 => ?_⟩
    have s5 := same_new (o := .tup [V.ref p, V.int (x : Int)]) n2
    refine ⟨d, p2, .int 0, _, nkE (S.filter fun y => !decide (y = x), x), rfl, rfl, hD4.same s5, nkE_at (SqT.of upd_same) (SqT.of (s5 _ _ hp)), nkE_depth _, ?_⟩
    rw [tallyE_get]
    exact q _ (s4.trans s5)
end
theorem dat_ext {P : Program} {w : World} {K : PySem.W.Frag} {H H' : Hp} {d : Addr} {kvs : List (NestedKey × V)} (e : LamX.ExtN H H') (h : DAt P w K H d kvs) : DAt P w K H' d kvs := by
  obtain ⟨xs, h1, h2, h3⟩ := h
  exact ⟨xs, e _ _ h1 (fun ps z => by unfold DN at z; cases z), fun x hx => ⟨NkAt.mono (fun a xs z => SqT_extN z e) _ _ (h2 x hx).1, (h2 x hx).2⟩, h3⟩
theorem flt_srt {S ss : List Nat} (aS : Asc S) (p : ss.Perm S) {x : Nat} (hx : x ∈ S) : srt (ss.erase x) = S.filter fun y => !decide (y = x) := by
  have nd := asc_nodup aS
  have e : S.erase x = S.filter fun y => !decide (y = x) := by
    rw [List.Nodup.erase_eq_filter nd]
    refine List.filter_congr fun y _ => ?_
    by_cases c : y = x
    · simp [c]
    · simp [c]
  rw [srt_eq (p.erase x), e]
  exact srt_self (aS.filter _)
def kcE (es : List Edge) (i : Nat) : Nat := match ((tallyE es).map (·.1))[i]? with
  | some k => (es.map nkE).count k
  | none => 0
theorem kcE_at {es : List Edge} {i : Nat} {e : Edge} (h : ((tallyE es).map (·.1))[i]? = some (nkE e)) : kcE es i = cntE es e := by
  unfold kcE
  rw [h]
  exact nkE_count es e
def nofK (es : List Edge) (S : List Nat) : V → Int
  | .int m => ((cntE es (S.filter fun y => !decide (y = m.toNat), m.toNat) : Nat) : Int)
  | _ => 0
def spSbl (K : PySem.W.Frag) (tabs : List NdefX.NTab) : Sp := fun vs H Q _ => ∃ (a : Addr) (ts : List V) (rows : List (List Nat)) (sz n d : Nat), vs = [.ref a, .int sz] ∧ SqT K H a ts ∧ RowsL K H ts rows ∧ rows.length ≤ 20000 ∧ Good n d rows ∧ n ≤ 60 ∧ d ≤ n ∧ sz < d ∧ NdefX.TabsN tabs H ∧
  ∀ H' t ss e, LamX.ExtN H H' → (∀ b, H' b = none → H b = none) → NdefX.TabsN tabs H' → H t = none → H' t = some (.tup (setV ss)) → e ∈ edgesL sz rows → (∀ e' ∈ edgesL sz rows, cntE (edgesL sz rows) e' ≤ cntE (edgesL sz rows) e) → ss.Perm (e.1 ++ [e.2]) →
    ss.Pairwise (fun x y => nbE (edgesL sz rows) ss x ≤ nbE (edgesL sz rows) ss y) → Q (.ref t) H'
section
variable {P : Program} {w : World} {K : PySem.W.Frag} {mg : Str → Option Value} {base : Heap}
theorem ok_sbl (T : Txt K mg) (B : TBs T base) {j : Nat} : FnOk P w K mg base CX0 (j + 5) T.fSbl T.fdSbl ["table", "size"] (spSbl K (tabsOf T)) := by
  refine Fun_okC T.FSbl T.coSbl scSbl (fun vs H Q E h => ?_) (fun A outer s H vs Q E hr h => ?_)
  · obtain ⟨a, ts, rows, sz, n, d, rfl, _⟩ := h
    rfl
  · obtain ⟨a, ts, rows, sz, n, d, rfl, hA, R0, hl, G0, hn, hd, hs, hT, q⟩ := h
    refine ⟨_, pss_cons (ps_set (i := 2) scSbl.nd rfl (.inr rfl) (pe_call (ok_clevel T) hr (by rfl) T.gCLevel T.FCLevel.kp T.bCLevel .nil pass0 (pa_cons (pv 0) (pa_cons (pv 1) pa_nil)))) (pss_cons (ps_asg (pe_maxLam (T := tabsOf T) (nm := nmSbl) (N := ["edge", "numbers"]) (fr := ["numbers"]) (js := [2]) (y := "edge") B.tbSbl rfl (.head _) rfl (huG2a B.neSbl_Uneq) (NdefX.nscope_by (by decide +kernel)) (show NdefX.ndefB (defScope sSbl) _ _ = true by decide +kernel) rfl hr (by rfl) T.n_max (pa_cons (pe_callTy (call_listDN (P := P) (w := w) K rfl) (by rfl) T.n_list (by decide +kernel) (pa_cons (pv 2) pa_nil)) pa_nil) (fun f c' A outer s H hr => (pe_ix (ix_dN (P := P) (w := w) K (u9_of hr)) (pv 1) (pv 0) (fun _ _ => rfl)))) (pg_tup rfl (pgs_cons (pg_name (i := 3) scSbl.nd rfl (.inl rfl)) (pgs_cons (pg_name (i := 4) scSbl.nd rfl (.inl rfl)) pgs_nil)))) (pss_cons (ps_set (i := 5) scSbl.nd rfl (.inr rfl) (pe_call (ok_joined T) hr (by rfl) T.gJoined T.FJoined.kp T.bJoined .nil pass0 (pa_cons (pv 3) (pa_cons (pv 4) pa_nil)))) (pss_cons (NdefX.ps_ndefM (T := tabsOf T) (nm := nmSbl) (i := 6) B.tbSbl rfl (.head _) rfl (huG2a B.neSbl_Uneq) (NdefX.ndef_free (fr := ["numbers", "servers"]) (sc := defScope sSbl) (by decide +kernel)) rfl rfl rfl scSbl.nd rfl (.inl rfl) (Or.inr rfl)) (pss_one (ps_ret (pe_callTy (call_tupleK K) (by rfl) T.n_tuple (by decide +kernel) (pa_cons (pe_sortNd (i := 6) (js := [2, 5]) (fun f c' cl => nok_sbl_number_of T f c' cl) (show NdefX.ndefB (defScope sSbl) (defScope sSbl_number_of) _ = true by decide +kernel) rfl hr (by rfl) T.n_sorted rfl (Or.inl rfl) (pa_cons (pv 5) pa_nil)) pa_nil))))))), ?_⟩
    have hrl : ∀ r ∈ rows, r.length ≤ 60 := fun r hr => by rw [(G0.2 r hr).1]; omega
    refine ⟨.ref a, rfl, _, rfl, a, ts, rows, sz, rfl, hA, R0, hl, hrl, fun H1 nd s1 nnd (hD1 : DAt P w K H1 nd (tallyE (edgesL sz rows))) => ?_⟩
    have hpos := dist_pos G0 hs
    have mall := edge_mem G0 hs
    unfold distE at hpos
    generalize hes : edgesL sz rows = es at hD1 hpos mall q
    dsimp only [gName]
    refine ⟨.ref nd, rfl, nd, _, rfl, hD1, fun p us np hus => ?_⟩
    have s2 := same_new (o := .lst us) np
    have hp : (upd H1 p (.lst us)) p = some (.lst us) := upd_same
    replace hus : PySem.Paired (fun v k => NkAt K (upd H1 p (.lst us)) k v) us ((tallyE es).map (·.1)) := PySem.Paired.mono (fun _ _ z => z.same s2) hus
    have s02 := s1.trans s2
    have hD2 := hD1.same s2
    have ulen := PySem.Paired.length hus
    rw [List.length_map] at ulen
    generalize upd H1 p (.lst us) = H2 at s2 hp hus s02 hD2 ⊢
    have edgeAt : ∀ {i : Nat} {x : V} {H' : Hp}, PySem.Paired (fun v k => NkAt K H' k v) us ((tallyE es).map (·.1)) → us[i]? = some x → ∃ e b, e ∈ es ∧ ((tallyE es).map (·.1))[i]? = some (nkE e) ∧ x = .ref b ∧ NkAt K H' (nkE e) (.ref b) := fun {i x H'} hb hx => by
      rcases paired_at hb i with ⟨z, _⟩ | ⟨x', k, c1, c2, hk⟩
      · rw [hx] at z
        cases z
      · rw [hx] at c1
        obtain rfl := Option.some.inj c1
        obtain ⟨e, he, rfl⟩ := keyE_mem (List.mem_of_getElem? c2)
        obtain ⟨b, rfl⟩ := nkE_refS hk
        exact ⟨e, b, he, c2, rfl, hk⟩
    refine ⟨hT.ext s02, fun H3 e3 n3 T3 => ⟨p, us, fun i => .int ((kcE es i : Nat) : Int), rfl, .inl (SqL_extN (SqL.of hp) e3), ?_, keys_int, fun i x hx H4 s4 => ?_, fun i x H4 hx hb s4 => ?_⟩⟩
    · show 0 < us.length
      omega
    · have hus4 : PySem.Paired (fun v k => NkAt K H4 k v) us ((tallyE es).map (·.1)) := PySem.Paired.mono (fun _ _ z => (NkAt.mono (fun a xs z => SqT_extN z e3) _ _ z).same s4) hus
      obtain ⟨e, b, he, c2, rfl, hk⟩ := edgeAt hus4 hx
      have hv : valV (tallyE es) (nkE e) = some (.int (cntE es e : Nat)) := by
        rw [tally_val _ _ rfl, if_neg]
        · rw [nkE_count]
        · have := List.count_pos_iff.mpr ((tally_keys _ _).mp (List.mem_of_getElem? c2))
          omega
      refine ⟨.ref nd, rfl, .ref b, rfl, nd, b, _, nkE e, _, rfl, rfl, (dat_ext e3 hD2).same s4, hk, nkE_depth e, hv, Same.refl _, ?_⟩
      dsimp only
      rw [kcE_at c2]
      exact .int _
    have hus4 : PySem.Paired (fun v k => NkAt K H4 k v) us ((tallyE es).map (·.1)) := PySem.Paired.mono (fun _ _ z => (NkAt.mono (fun a xs z => SqT_extN z e3) _ _ z).same s4) hus
    obtain ⟨e, b, he, c2, rfl, hk⟩ := edgeAt hus4 hx
    have top : ∀ e' ∈ es, cntE es e' ≤ cntE es e := fun e' he' => by
      have hk' := (tally_keys (es.map nkE) (nkE e')).mpr (List.mem_map.mpr ⟨e', he', rfl⟩)
      obtain ⟨j', h1, h2⟩ := List.getElem_of_mem hk'
      have h3 : ((tallyE es).map (·.1))[j']? = some (nkE e') := by rw [List.getElem?_eq_getElem h1, h2]
      have := lt_int_false (hb j' (by rw [ulen]; rw [List.length_map] at h1; exact h1))
      rw [kcE_at h3, kcE_at c2] at this
      omega
    obtain ⟨t, z1, z2⟩ := nkE_back hk
    obtain ⟨a1, a2, a3, a4⟩ := allE_back (mall e he)
    refine ⟨b, _, rfl, z1, rfl, ?_⟩
    dsimp only [gCons, gName, gNil]
    refine ⟨_, _, rfl, _, _, rfl, rfl, ?_⟩
    refine ⟨.ref t, rfl, _, rfl, t, e.1, e.2, rfl, z2, by omega, fun H5 sv s5 nsv hsv => ?_⟩
    dsimp only [gName]
    refine ⟨(T3.ext s4).ext s5, fun f c' H6 e6 n6 T6 f0 f1 c1 => ?_⟩
    have nd0 : (e.1 ++ [e.2]).Nodup := List.nodup_append.mpr ⟨asc_nodup a3, List.nodup_cons.mpr ⟨List.not_mem_nil, List.nodup_nil⟩, fun x hx y hy e' => (a4 x hx).2 (e'.trans (List.mem_singleton.mp hy))⟩
    have aS : Asc (srt (e.1 ++ [e.2])) := srt_asc nd0
    have pS := srt_perm (e.1 ++ [e.2])
    have lS : (srt (e.1 ++ [e.2])).length ≤ 61 := by
      rw [pS.length_eq, List.length_append, List.length_singleton]
      omega
    generalize hSS : srt (e.1 ++ [e.2]) = S at hsv aS pS lS ⊢
    have hD6 := dat_ext e6 (((dat_ext e3 hD2).same s4).same s5)
    have hsv6 := extN_tup e6 hsv
    refine ⟨.ref sv, rfl, sv, f, c', setV S, nofK es S, rfl, rfl, f1, c1, .inr (SqT.of hsv6), fun x hx H7 s7 => ?_, fun ys pp H7 hperm hpw s7 np7 => ?_⟩
    · obtain ⟨m, hm, rfl⟩ := List.mem_map.mp hx
      refine ⟨nd, sv, S, es, m, rfl, rfl, hD6.same s7, SqT.of (s7 _ _ hsv6), lS, fun H8 s8 => ⟨s8, ?_⟩⟩
      unfold nofK
      simp
    obtain ⟨ss, rfl, hss⟩ := perm_setV hperm
    have s8 := s7.trans (same_new (o := .lst (setV ss)) np7)
    refine ⟨pp, setV ss, rfl, .inl ⟨SqL.of upd_same, fun u nu => ?_⟩⟩
    have s9 := s8.trans (same_new (o := .tup (setV ss)) nu)
    have eN : LamX.ExtN H (upd (upd H7 pp (.lst (setV ss))) u (.tup (setV ss))) := (((((extN_same s02).trans e3).trans (extN_same s4)).trans (extN_same s5)).trans e6).trans (extN_same s9)
    have fr : ∀ b, (upd (upd H7 pp (.lst (setV ss))) u (.tup (setV ss))) b = none → H b = none := fun b z => s02.free (n3 b (s4.free (s5.free (n6 b (s9.free z)))))
    refine q _ u ss e eN fr (T6.ext s9) (s02.free (n3 u (s4.free (s5.free (n6 u (s8.free nu)))))) upd_same he top (hss.trans pS) ?_
    have hw : ss.Pairwise fun (x y : Nat) => nofK es S (.int (x : Int)) ≤ nofK es S (.int (y : Int)) := by
      unfold setV at hpw
      rw [List.pairwise_map] at hpw
      exact hpw
    have ev : ∀ x ∈ ss, nofK es S (.int (x : Int)) = ((nbE es ss x : Nat) : Int) := fun x hx => by
      unfold nofK nbE
      rw [flt_srt aS hss (hss.mem_iff.mp hx)]
      simp
    refine hw.imp_of_mem fun {x y} hx hy hxy => ?_
    rw [ev x hx, ev y hy] at hxy
    omega
end
/-! ### unequal_sets: which two sets -/
theorem extN_rowsL {K : PySem.W.Frag} {H H' : Hp} {ts : List V} {rows : List (List Nat)} (e : LamX.ExtN H H') (h : RowsL K H ts rows) : RowsL K H' ts rows := PySem.Paired.mono (fun _ _ ⟨t, e1, z⟩ => ⟨t, e1, SqT_extN z e⟩) h
theorem extN_begL {K : PySem.W.Frag} {H H' : Hp} {us : List V} {bs : List (List Nat × Nat)} (e : LamX.ExtN H H') (h : BegL K H us bs) : BegL K H' us bs := PySem.Paired.mono (fun v b ⟨u, t, e1, z1, z2⟩ => ⟨u, t, e1, SqT_extN z1 e, SqT_extN z2 e⟩) h
def spUneq18 (K : PySem.W.Frag) (tabs : List NdefX.NTab) : Sp := fun vs H Q _ => ∃ (n : Nat) (a b : Addr) (ts : List V) (rows : List (List Nat)) (ls : List Nat) (f : Nat), vs = [.int n, .ref a, .ref b, .int f] ∧ SqT K H a ts ∧ RowsL K H ts rows ∧ SqT K H b (setV ls) ∧ rows.length ≤ 20000 ∧ (∀ r ∈ rows, r.length ≤ 60) ∧ ls.length ≤ 60 ∧ f ≤ ls.length ∧ (combs ls f).length ≤ 100000 ∧
  (∀ r ∈ rows, f ≤ (inL ls r).length) ∧ NdefX.TabsN tabs H ∧
  ∀ H', LamX.ExtN H H' → (∀ b, H' b = none → H b = none) → NdefX.TabsN tabs H' → ((∃ F, ∀ c ∈ combs ls f, ldC ls f rows c = F) → Q .non H') ∧
    ∀ t x y i c c', (combs ls f)[i]? = some c → (∀ c'' ∈ combs ls f, ldC ls f rows c ≤ ldC ls f rows c'') → (∀ j < i, ldC ls f rows c < ldC ls f rows ((combs ls f).getD j [])) → c' ∈ combs ls f → (∀ c'' ∈ combs ls f, ldC ls f rows c'' ≤ ldC ls f rows c') → ldC ls f rows c < ldC ls f rows c' → H t = none → H' t = some (.tup [.ref x, .ref y]) → SqT K H' x (setV c) → SqT K H' y (setV c') → Q (.ref t) H'
section
variable {P : Program} {w : World} {K : PySem.W.Frag} {mg : Str → Option Value} {base : Heap}
theorem ok_uneq (T : Txt K mg) (B : TBs T base) {j : Nat} : FnOk P w K mg base CX0 (j + 6) T.fUneq T.fdUneq ["n", "table", "live", "size"] (spUneq18 K (tabsOf T)) := by
  refine Fun_okC T.FUneq T.coUneq scUneq (fun vs H Q E h => ?_) (fun A outer s H vs Q E hr h => ?_)
  · obtain ⟨n, a, b, ts, rows, ls, f, rfl, _⟩ := h
    rfl
  · obtain ⟨n, a, b, ts, rows, ls, f, rfl, hA, R0, hB, hl, hrl, hll, hf, hc, hok, hT, q⟩ := h
    refine ⟨_, pss_cons (ps_set (i := 4) scUneq.nd rfl (.inl rfl) (pe_call (ok_loads T) hr (by rfl) T.gLoads T.FLoads.kp T.bLoads .nil passF (pa_cons (pv 0) (pa_cons (pv 1) (pa_cons (pv 2) (pa_cons (pv 3) pa_nil)))))) (pss_cons (ps_asg (pe_minLamF (T := tabsOf T) (nm := nmUneq) (N := ["row"]) (fr := []) (js := []) (y := "row") B.tbUneq rfl (.tail _ (.head _)) rfl (huG2b B.neSbl_Uneq) (NdefX.nscope_by (by decide +kernel)) (show NdefX.ndefB (defScope sUneq) _ _ = true by decide +kernel) rfl hr (by rfl) T.n_min (pa_cons (pv 4) pa_nil) (fun f c' A outer s H hr => (pe_ix (ix_tupK K) (pv 0) pe_int (fun _ _ => rfl)))) (pg_tup rfl (pgs_cons (pg_name (i := 5) scUneq.nd rfl (.inl rfl)) (pgs_cons (pg_name (i := 6) scUneq.nd rfl (.inl rfl)) pgs_nil)))) (pss_cons (ps_asg (pe_maxLam (T := tabsOf T) (nm := nmUneq) (N := ["row"]) (fr := []) (js := []) (y := "row") B.tbUneq rfl (.tail _ (.head _)) rfl (huG2b B.neSbl_Uneq) (NdefX.nscope_by (by decide +kernel)) (show NdefX.ndefB (defScope sUneq) _ _ = true by decide +kernel) rfl hr (by rfl) T.n_max (pa_cons (pv 4) pa_nil) (fun f c' A outer s H hr => (pe_ix (ix_tupK K) (pv 0) pe_int (fun _ _ => rfl)))) (pg_tup rfl (pgs_cons (pg_name (i := 7) scUneq.nd rfl (.inl rfl)) (pgs_cons (pg_name (i := 8) scUneq.nd rfl (.inl rfl)) pgs_nil)))) (pss_cons (ps_if (pt_cmpR op_eq (pv 6) (pv 8) (nomark _)) (pss_one (ps_ret pe_non)) pss_nil) (pss_one (ps_ret (pe_tup (pa_cons (pv 5) (pa_cons (pv 7) pa_nil)))))))), ?_⟩
    refine ⟨_, rfl, _, rfl, .ref b, rfl, _, rfl, n, a, b, ts, rows, ls, f, rfl, hA, R0, hB, hl, hrl, hll, hf, hc, fun _ H1 u s1 nu L1 => ?_, fun i r t h1 _ _ h4 => absurd (hok r (List.mem_of_getElem? h1)) h4⟩
    obtain ⟨us, hu, hbeg⟩ := L1
    have hul := hbeg.len
    rw [List.length_map] at hul
    have hcn : 0 < (combs ls f).length := List.length_pos_iff.mpr (combs_ne _ _ hf)
    have at_ : ∀ {H' : Hp} {bs : List (List Nat × Nat)} {i : Nat} {x : V}, BegL K H' us bs → us[i]? = some x → ∃ c r t, bs[i]? = some c ∧ x = .ref r ∧ SqT K H' r [.ref t, .int (c.2 : Int)] ∧ SqT K H' t (setV c.1) := fun {H' bs i x} hb hx => by
      rcases paired_at hb i with ⟨z, _⟩ | ⟨x', c, c1, c2, r, t, e, z1, z2⟩
      · rw [hx] at z
        cases z
      · rw [hx] at c1
        obtain rfl := Option.some.inj c1
        exact ⟨c, r, t, c2, e, z1, z2⟩
    have keyAt : ∀ {i : Nat} {c : List Nat × Nat}, ((combs ls f).map fun c => (c, ldC ls f rows c))[i]? = some c → c.1 ∈ combs ls f ∧ c.2 = ldC ls f rows c.1 ∧ ldC ls f rows ((combs ls f).getD i []) = c.2 ∧ (combs ls f)[i]? = some c.1 := fun {i c} e => by
      rw [List.getElem?_map] at e
      cases hc2 : (combs ls f)[i]? with
      | none => rw [hc2] at e; cases e
      | some c0 =>
        rw [hc2] at e
        obtain rfl := Option.some.inj e
        exact ⟨List.mem_of_getElem? hc2, rfl, by rw [List.getD_eq_getElem?_getD, hc2]; rfl, rfl⟩
    dsimp only [gName]
    have hT1 := hT.ext s1
    refine ⟨.ref u, rfl, hT1, fun H2 e2 n2 T2 => ⟨u, us, fun i => .int ((ldC ls f rows ((combs ls f).getD i []) : Nat) : Int), rfl, .inr (SqT_extN (SqT.of hu) e2), ?_, keys_int, fun i x hx H3 s3 => ?_, fun i x H3 hx hb hfst s3 => ?_⟩⟩
    · show 0 < us.length
      omega
    · obtain ⟨c, r, t, c2, rfl, z1, z2⟩ := at_ ((extN_begL e2 hbeg).same s3) hx
      obtain ⟨_, k2, k3, _⟩ := keyAt c2
      refine ⟨.ref r, rfl, r, _, _, _, rfl, rfl, z1, rfl, Same.refl _, ?_⟩
      dsimp only
      rw [k3]
      exact .int _
    obtain ⟨c, r, t, c2, rfl, z1, z2⟩ := at_ ((extN_begL e2 hbeg).same s3) hx
    obtain ⟨k1, k2, k3, ki⟩ := keyAt c2
    have fst : ∀ j' < i, ldC ls f rows c.1 < ldC ls f rows ((combs ls f).getD j' []) := fun j' hj' => by
      have h1 := hfst j' hj'
      dsimp only at h1
      rw [k3, PySem.W.dataLt_int] at h1
      have h2 := of_decide_eq_true h1
      have h3 : ((c.2 : Nat) : Int) < ((ldC ls f rows ((combs ls f).getD j' []) : Nat) : Int) := h2
      rw [← k2]
      omega
    obtain ⟨i0, hi0⟩ : ∃ i0, i0 = i := ⟨_, rfl⟩
    have ki : (combs ls f)[i0]? = some c.1 := by rw [hi0]; exact ki
    have fst : ∀ j' < i0, ldC ls f rows c.1 < ldC ls f rows ((combs ls f).getD j' []) := by rw [hi0]; exact fst
    have low : ∀ c' ∈ combs ls f, c.2 ≤ ldC ls f rows c' := fun c' hc' => by
      obtain ⟨j', h1, h2⟩ := List.getElem_of_mem hc'
      have := lt_int_false (hb j' (by omega))
      rw [k3, List.getD_eq_getElem?_getD, List.getElem?_eq_getElem h1, h2] at this
      have h3 : ((c.2 : Nat) : Int) ≤ ((ldC ls f rows c' : Nat) : Int) := this
      omega
    refine ⟨r, _, rfl, z1, rfl, ?_⟩
    dsimp only [gCons, gName, gNil]
    refine ⟨_, _, rfl, _, _, rfl, rfl, ?_⟩
    have T3 := T2.ext s3
    refine ⟨.ref u, rfl, T3, fun H4 e4 n4 T4 => ⟨u, us, fun i => .int ((ldC ls f rows ((combs ls f).getD i []) : Nat) : Int), rfl, .inr (SqT_extN (Same.seqT s3 (SqT_extN (SqT.of hu) e2)) e4), ?_, keys_int, fun i x hx H5 s5 => ?_, fun i x H5 hx hb s5 => ?_⟩⟩
    · show 0 < us.length
      omega
    · obtain ⟨c, r, t, c2, rfl, z1, z2⟩ := at_ ((extN_begL e4 ((extN_begL e2 hbeg).same s3)).same s5) hx
      obtain ⟨_, k2, k3, _⟩ := keyAt c2
      refine ⟨.ref r, rfl, r, _, _, _, rfl, rfl, z1, rfl, Same.refl _, ?_⟩
      dsimp only
      rw [k3]
      exact .int _
    obtain ⟨c', r', t', c2', rfl, z1', z2'⟩ := at_ ((extN_begL e4 ((extN_begL e2 hbeg).same s3)).same s5) hx
    obtain ⟨k1', k2', k3', _⟩ := keyAt c2'
    have high : ∀ c'' ∈ combs ls f, ldC ls f rows c'' ≤ c'.2 := fun c'' hc' => by
      obtain ⟨j', h1, h2⟩ := List.getElem_of_mem hc'
      have := lt_int_false (hb j' (by omega))
      rw [k3', List.getD_eq_getElem?_getD, List.getElem?_eq_getElem h1, h2] at this
      have h3 : ((ldC ls f rows c'' : Nat) : Int) ≤ ((c'.2 : Nat) : Int) := this
      omega
    refine ⟨r', _, rfl, z1', rfl, ?_⟩
    dsimp only [gCons, gName, gNil]
    refine ⟨_, _, rfl, _, _, rfl, rfl, ?_⟩
    have T5 := T4.ext s5
    have eN : LamX.ExtN H H5 := ((((extN_same s1).trans e2).trans (extN_same s3)).trans e4).trans (extN_same s5)
    have fr : ∀ b, H5 b = none → H b = none := fun b z => s1.free (n2 b (s3.free (n4 b (s5.free z))))
    refine ⟨_, rfl, _, rfl, rfl, _, rfl, ite2 (fun h => ?_) (fun h => ?_)⟩
    · have he : c.2 = c'.2 := by
        have := of_decide_eq_true h
        injection this with this
        omega
      exact (q H5 eN fr T5).1 ⟨c.2, fun c'' hc'' => by
        have h1 := low c'' hc''
        have h2 := high c'' hc''
        omega⟩
    · refine ⟨_, rfl, _, rfl, (by show 2 ≤ sizeLine; decide), fun p np => ?_⟩
      have s6 := same_new (o := .tup [V.ref t, V.ref t']) np
      have hne : c.2 ≠ c'.2 := fun z => h (decide_eq_true (by rw [z]))
      have h1 := high c.1 k1
      refine (q _ (eN.trans (extN_same s6)) (fun b z => fr b (s6.free z)) (T5.ext s6)).2 p t t' i0 c.1 c'.1 ki (fun c'' hc'' => by rw [← k2]; exact low c'' hc'') fst k1' (fun c'' hc'' => by rw [← k2']; exact high c'' hc'') (by omega) (fr p np) upd_same ?_ ?_
      · exact Same.seqT s6 (Same.seqT s5 (SqT_extN z2 e4))
      · exact Same.seqT s6 z2'
end
/-! ### levels that are equal, and Lev -/
theorem cnt_cE (es : List Edge) (e : Edge) : cntE es e = cE es e := by
  unfold cntE cE List.count
  exact List.countP_congr fun a _ => Iff.rfl
theorem keys_mem {es : List Edge} {e : Edge} : nkE e ∈ (tallyE es).map (·.1) ↔ e ∈ es := by
  constructor
  · intro h
    obtain ⟨e', he, q⟩ := keyE_mem h
    rwa [← nkE_inj _ _ q]
  · exact fun h => (tally_keys _ _).mpr (List.mem_map.mpr ⟨e, h, rfl⟩)
theorem dist_full {n d s : Nat} {rows : List (List Nat)} (G : Good n d rows) (hs : s < d) (h : distE (edgesL s rows) = n * C (n - 1) s) : ∀ e ∈ allE n s, e ∈ edgesL s rows := fun e he => by
  refine Classical.byContradiction fun c => ?_
  have h2 : distE (edgesL s rows) ≤ ((allE n s).erase e).length := by
    rw [← List.length_map (f := nkE)]
    unfold distE
    rw [← List.length_map (f := fun x : NestedKey × V => x.1)]
    refine subG_len (tally_nodup _ _ rfl) fun k hk => ?_
    obtain ⟨e', he', rfl⟩ := keyE_mem hk
    refine List.mem_map.mpr ⟨e', ?_, rfl⟩
    exact (List.mem_erase_of_ne (fun z : e' = e => c (by rw [← z]; exact he'))).mpr (edge_mem G hs e' he')
  have h3 := List.length_erase_of_mem he
  have h4 := List.length_pos_of_mem he
  rw [allE_len] at h3 h4
  omega
theorem edgesE {n d s : Nat} {rows : List (List Nat)} (G : Good n d rows) (hs : s < d) : edgesL s rows = rows.map (edgE s) := edges_all fun r hr => by rw [(G.2 r hr).1]; exact hs
theorem lev_to {n d s : Nat} {rows : List (List Nat)} (G : Good n d rows) (hs : s < d) (h : levB n s (edgesL s rows) = true) : ∃ w, Lev n s w rows := by
  obtain ⟨h1, h2⟩ := of_decide_eq_true h
  obtain ⟨r, hr⟩ := List.exists_mem_of_ne_nil _ G.1
  have hm : edgE s r ∈ edgesL s rows := by
    rw [edgesE G hs]
    exact List.mem_map.mpr ⟨r, hr, rfl⟩
  refine ⟨cntE (edgesL s rows) (edgE s r), fun e he => ?_⟩
  rw [← edgesE G hs, ← cnt_cE]
  exact h2 e (dist_full G hs h1 e he) _ hm
theorem lev_of {n d s w : Nat} {rows : List (List Nat)} (G : Good n d rows) (hs : s < d) (hw : 0 < w) (h : Lev n s w rows) : levB n s (edgesL s rows) = true := by
  have hin : ∀ e ∈ allE n s, e ∈ edgesL s rows := fun e he => by
    have := h e he
    rw [← edgesE G hs] at this
    rw [← this] at hw
    obtain ⟨a, ha, hb⟩ := List.countP_pos_iff.mp hw
    rwa [← of_decide_eq_true hb]
  refine decide_eq_true ⟨Nat.le_antisymm (dist_le G hs) ?_, fun e he e' he' => ?_⟩
  · rw [← allE_len, ← List.length_map (f := nkE)]
    unfold distE
    rw [← List.length_map (f := fun x : NestedKey × V => x.1)]
    refine subG_len (List.pairwise_map.mpr (List.Pairwise.imp (fun {a b} h e => h (nkE_inj _ _ e)) (allE_nodup n s))) fun k hk => ?_
    obtain ⟨e, he, rfl⟩ := List.mem_map.mp hk
    exact keys_mem.mpr (hin e he)
  · rw [cnt_cE, cnt_cE, edgesE G hs, h e (edge_mem G hs e he), h e' (edge_mem G hs e' he')]
/-! the first level that is not equal -/
theorem least_of (p : Nat → Bool) : ∀ j : Nat, p j = true → ∃ i, i ≤ j ∧ p i = true ∧ ∀ k, k < i → p k = false := by
  intro j
  induction j using Nat.strongRecOn with
  | _ j ih =>
    intro h
    by_cases c : ∃ k, k < j ∧ p k = true
    · obtain ⟨k, hk, hp⟩ := c
      obtain ⟨i, h1, h2, h3⟩ := ih k hk hp
      exact ⟨i, by omega, h2, h3⟩
    · exact ⟨j, Nat.le_refl _, h, fun k hk => by
        cases e : p k
        · rfl
        · exact absurd ⟨k, hk, e⟩ c⟩
theorem reach_spec (n d : Nat) (rows : List (List Nat)) : reachE n d rows ≤ d ∧ (∀ j, j < reachE n d rows → levB n j (edgesL j rows) = true) ∧ (reachE n d rows < d → levB n (reachE n d rows) (edgesL (reachE n d rows) rows) = false) := by
  by_cases c : ∃ j, j < d ∧ levB n j (edgesL j rows) = false
  · obtain ⟨j, hj, hp⟩ := c
    obtain ⟨i, h1, h2, h3⟩ := least_of (fun j => !levB n j (edgesL j rows)) j (by show (!levB n j (edgesL j rows)) = true; rw [hp]; rfl)
    have h2' : levB n i (edgesL i rows) = false := by simpa using h2
    have h3' : ∀ k, k < i → levB n k (edgesL k rows) = true := fun k hk => by simpa using h3 k hk
    rw [reach_at (by omega) h3' h2']
    exact ⟨by omega, h3', fun _ => h2'⟩
  · have h : ∀ j, j < d → levB n j (edgesL j rows) = true := fun j hj => by
      cases e : levB n j (edgesL j rows)
      · exact absurd ⟨j, hj, e⟩ c
      · rfl
    rw [reach_all h]
    exact ⟨Nat.le_refl _, h, fun z => absurd z (by omega)⟩
/-! ### the loads by the shares -/
theorem ldC_held (ls : List Nat) (f : Nat) (rows : List (List Nat)) (c : List Nat) : ldC ls f rows c = heldN ls f rows c := by
  unfold ldC heldN
  induction rows with
  | nil => rfl
  | cons r rows ih =>
    rw [List.map_cons, List.count_cons, List.countP_cons, ih]
    congr 1
    by_cases e : keyL ls f r = c
    · rw [if_pos (beq_iff_eq.mpr e), if_pos (decide_eq_true (show srt ((lvL ls r).take f) = c from e))]
    · rw [if_neg (fun z => e (beq_iff_eq.mp z)), if_neg (show ¬ decide (srt ((lvL ls r).take f) = c) = true from fun z => e (of_decide_eq_true z))]
theorem eqv_list (a b : List Nat) : PyData.eqv (.list (natD a)) (.list (natD b)) = decide (a = b) := by
  simp only [PyData.eqv]
  exact eqv_nats a b
theorem sh_nats {ms : List Nat} (hl : ms.length ≤ 1000) (h : ∀ x ∈ ms, x < 2 ^ 30) : Sh 60 80000 (.list (natD ms)) := (Sh.lst (sh_nat (b := 30) (by decide) (by decide) h)).mono (by decide) (by omega)
theorem dp_list {K : PySem.W.Frag} {H : Hp} {t : Addr} {ms : List Nat} (h : H t = some (.lst (setV ms))) : Dp K H (.ref t) (.list (natD ms)) := .lst (SqL.of h) (dp_set ms)
/-! ### the others, as a set -/
theorem out_set (n : Nat) (ms : List Nat) : (outL n (ms.map fun (m : Nat) => (m : Int))).map V.int = setV ((List.range' 0 n).filter fun x => !decide (x ∈ ms)) := by
  unfold outL subL setV
  rw [List.map_map, List.range_eq_range']
  have e : (fun i : Nat => !decide ((i : Int) ∈ ms.map fun (m : Nat) => (m : Int))) = fun x : Nat => !decide (x ∈ ms) := by
    funext i
    congr 1
    refine decide_eq_decide.mpr ⟨fun h => ?_, fun h => List.mem_map.mpr ⟨i, h, rfl⟩⟩
    obtain ⟨y, hy, z⟩ := List.mem_map.mp h
    have : y = i := by omega
    rw [← this]
    exact hy
  rw [e]
  rfl
theorem compl_of {n : Nat} {ms : List Nat} (a : Asc ms) (h : ∀ x ∈ ms, x < n) : Compl n ms ((List.range' 0 n).filter fun x => !decide (x ∈ ms)) := ⟨a, (asc_range' n 0).filter _, h, fun x => by
  rw [List.mem_filter, mem_range0]
  simp⟩
theorem Compl.len {n : Nat} {I L : List Nat} (h : Compl n I L) : I.length + L.length = n := by
  have p : (I ++ L).Perm (List.range' 0 n) := by
    refine (List.perm_ext_iff_of_nodup ?_ (asc_nodup (asc_range' n 0))).mpr fun x => ?_
    · refine List.nodup_append.mpr ⟨asc_nodup h.aI, asc_nodup h.aL, fun x hx y hy e => ?_⟩
      subst e
      exact ((h.mem x).mp hy).2 hx
    · rw [List.mem_append, mem_range0, h.mem]
      constructor
      · rintro (z | z)
        · exact h.bI x z
        · exact z.1
      · intro z
        by_cases c : x ∈ I
        · exact .inl c
        · exact .inr ⟨z, c⟩
  have := p.length_eq
  rw [List.length_append, List.length_range'] at this
  exact this
/-! ### witness_at, of a table whose first level is uneven: which witness -/
def Fst18 (rows : List (List Nat)) (A0 B0 : Nat) : Prop := (¬ ∃ F, ∀ c ∈ combs [0, 1, 2] 1, ldC [0, 1, 2] 1 rows c = F) ∧
  ∀ i c c', (combs [0, 1, 2] 1)[i]? = some c → (∀ c'' ∈ combs [0, 1, 2] 1, ldC [0, 1, 2] 1 rows c ≤ ldC [0, 1, 2] 1 rows c'') → (∀ j < i, ldC [0, 1, 2] 1 rows c < ldC [0, 1, 2] 1 rows ((combs [0, 1, 2] 1).getD j [])) → c' ∈ combs [0, 1, 2] 1 → (∀ c'' ∈ combs [0, 1, 2] 1, ldC [0, 1, 2] 1 rows c'' ≤ ldC [0, 1, 2] 1 rows c') → c = [A0] ∧ c' = [B0]
theorem cut_drop18 (fl : List Nat) (w : Nat) (h : w ≤ fl.length) : cutV (setV fl) (some (w : Int)) none = setV (fl.drop w) := by
  unfold cutV
  have h1 : HT.sIx (setV fl).length 0 (some (w : Int)) = w := by
    rw [HT.sIx_nat, setV_len]
    omega
  have h2 : HT.sIx (setV fl).length (setV fl).length none = (setV fl).length := rfl
  rw [h1, h2]
  unfold setV
  rw [← List.map_drop, List.take_of_length_le (by rw [List.length_map, List.length_drop, List.length_map]; exact Nat.le_refl _)]
def spWitn18 (K : PySem.W.Frag) (tabs : List NdefX.NTab) : Sp := fun vs H Q _ => ∃ (a : Addr) (ts : List V) (rows : List (List Nat)) (k A0 B0 : Nat), vs = [.int 3, .ref a, .int 0, .int k] ∧ SqT K H a ts ∧ RowsL K H ts rows ∧ rows.length ≤ 20000 ∧ Good 3 3 rows ∧ 1 ≤ k ∧ k ≤ 60 ∧ Fst18 rows A0 B0 ∧ NdefX.TabsN tabs H ∧
  ∀ H' t l x y, LamX.ExtN H H' → (∀ b, H' b = none → H b = none) → NdefX.TabsN tabs H' → H t = none → H' t = some (.tup [.ref l, .ref x, .ref y]) → SqT K H' l (setV [0, 1, 2]) → SqT K H' x (setV [A0]) → SqT K H' y (setV [B0]) → Q (.ref t) H'
section
variable {P : Program} {w : World} {K : PySem.W.Frag} {mg : Str → Option Value} {base : Heap}
theorem ok_witn (T : Txt K mg) (B : TBs T base) {j : Nat} : FnOk P w K mg base CX0 (j + 7) T.fWitn T.fdWitn ["n", "table", "size", "factor"] (spWitn18 K (tabsOf T)) := by
  refine T.FWitn.ok scWitn (fun vs H Q E h => ?_) (fun cdv A outer s H vs Q E hr h => ?_)
  · obtain ⟨a, ts, rows, k, A0, B0, rfl, _⟩ := h
    rfl
  · obtain ⟨a, ts, rows, k, A0, B0, rfl, hA, R0, hl, G0, hk, hk60, hF, hT, q⟩ := h
    refine ⟨_, pss_cons (ps_set (i := 4) scWitn.nd rfl (.inl rfl) (pe_call (ok_sbl T B) hr (by rfl) T.gSbl T.FSbl.kp T.bSbl .nil pass0 (pa_cons (pv 1) (pa_cons (pv 2) pa_nil)))) (C8.pss_cut (ps_set (i := 5) scWitn.nd rfl (.inl rfl) (pe_ifExp (pt_cmpR op_eq (pv 2) pe_int (nomark _)) pe_int (pe_callB (call_max2 rfl) (by rfl) T.n_max (by decide +kernel) (pa_cons pe_int (pa_cons (pe_op op_sub (pe_op op_add (pv 2) pe_int) (pv 3)) pa_nil))))) (pss_cons (ps_set (i := 6) scWitn.nd rfl (.inl rfl) (pe_op op_sub (pe_op op_add (pv 2) pe_int) (pv 5))) (pss_cons (ps_for PassesOwn.never rfl (pi_tup (pe_tup (pa_cons (pe_slice (sl_tupS K) (pv 4) (po_some (pv 6)) po_none) (pa_cons (pe_slice (sl_tupS K) (pv 4) po_none (po_some (pv 5))) pa_nil)))) (pg_name (i := 7) scWitn.nd rfl (.inl rfl)) (pss_cons (ps_set (i := 8) scWitn.nd rfl (.inl rfl) (pe_call (ok_out T) hr (by rfl) T.gOut T.FOut.kp T.bOut .nil pass0 (pa_cons (pv 0) (pa_cons (pv 7) pa_nil)))) (pss_cons (ps_set (i := 9) scWitn.nd rfl (.inl rfl) (pe_call (ok_uneq T B) hr (by rfl) T.gUneq T.FUneq.kp T.bUneq .nil pass0 (pa_cons (pv 0) (pa_cons (pv 1) (pa_cons (pv 8) (pa_cons (pv 6) pa_nil)))))) (pss_one (ps_if (pt_cmpR op_notN (pv 9) pe_non (nomark _)) (pss_one (ps_ret (pe_tup (pa_cons (pv 8) (pa_cons (pe_ix (ix_tupK K) (pv 9) pe_int (fun _ _ => rfl)) (pa_cons (pe_ix (ix_tupK K) (pv 9) pe_int (fun _ _ => rfl)) pa_nil)))))) pss_nil))))) (pss_one (ps_ret pe_non))))), ?_⟩
    refine ⟨.ref a, rfl, _, rfl, a, ts, rows, 0, 3, 3, rfl, hA, R0, hl, G0, by decide, by decide, by decide, hT, fun H1 sv ss e e1 n1 T1 nsv hsv he top hperm hpw => ?_⟩
    dsimp only [gName]
    have hlen : ss.length = 1 := by
      obtain ⟨_, a2, _, _⟩ := allE_back (edge_mem G0 (by decide : 0 < 3) e he)
      rw [hperm.length_eq, List.length_append, List.length_singleton, a2]
    refine ⟨fun σ H2 => σ = [some (.int 3), some (.ref a), some (.int 0), some (.int (k : Int)), some (.ref sv), some (.int 0), none, none, none, none] ∧ H2 = H1, ?_, ?_⟩
    · refine ⟨_, rfl, rfl, _, rfl, iteT ?_⟩
      exact ⟨rfl, rfl⟩
    rintro σ H2 ⟨rfl, rfl⟩
    refine ⟨_, rfl, _, _, rfl, rfl, _, rfl, _, _, rfl, rfl, ?_⟩
    dsimp only [gName]
    rw [show (0 : Int) + 1 - 0 = ((1 : Nat) : Int) by decide]
    refine ⟨_, rfl, _, rfl, _, rfl, sv, _, rfl, SqT.of hsv, fun p1 H3 s3 h1 => ?_⟩
    refine ⟨_, rfl, _, rfl, _, rfl, sv, _, rfl, SqT.of (s3 _ _ hsv), fun p2 H4 s4 h2 => ⟨by show 2 ≤ sizeLine; decide, fun p np => ?_⟩⟩
    rw [cut_drop18 _ _ (by omega), List.drop_eq_nil_of_le (by omega)] at h1
    have s5 := same_new (o := .tup [V.ref p1, V.ref p2]) np
    have hp : (upd H4 p (.tup [V.ref p1, V.ref p2])) p = some (.tup [V.ref p1, V.ref p2]) := upd_same
    have s15 := (s3.trans s4).trans s5
    replace h1 := Same.seqT (s4.trans s5) h1
    generalize upd H4 p (.tup [V.ref p1, V.ref p2]) = H5 at s5 hp s15 h1 ⊢
    have e05 : LamX.ExtN H H5 := e1.trans (extN_same s15)
    have n05 : ∀ b, H5 b = none → H b = none := fun b z => n1 b (s15.free z)
    have T5 := T1.ext s15
    refine ⟨p, rfl, ⟨_, SqT.of hp⟩, ?_⟩
    refine for_tup (K := K) (a := p) (xs := [V.ref p1, V.ref p2]) (fun z σ H6 => z = 0 ∧ σ = [some (.int 3), some (.ref a), some (.int 0), some (.int (k : Int)), some (.ref sv), some (.int 0), some (.int ((1 : Nat) : Int)), none, none, none] ∧ H6 = H5) ⟨rfl, rfl, rfl⟩ ?_ ?_ ?_
    · rintro z σ H6 _ ⟨_, _, rfl⟩
      exact SqT.of hp
    · rintro z x σ H6 hx ⟨rfl, rfl, rfl⟩
      obtain rfl := Option.some.inj (show some (V.ref p1) = some x from hx)
      dsimp only [gName]
      refine ⟨_, rfl, .ref p1, rfl, 3, p1, [], rfl, h1, by decide, by decide, fun H7 l s7 nl hl7 => ?_⟩
      replace hl7 : H7 l = some (.tup (setV [0, 1, 2])) := hl7
      have e7 : LamX.ExtN H H7 := e05.trans (extN_same s7)
      have n7 : ∀ b, H7 b = none → H b = none := fun b q => n05 b (s7.free q)
      dsimp only [gName]
      have okL : ∀ r ∈ rows, 1 ≤ (inL [0, 1, 2] r).length := enough G0.2 (by decide) (by decide) (by decide)
      refine ⟨_, rfl, .ref a, rfl, .ref l, rfl, _, rfl, 3, a, l, ts, rows, [0, 1, 2], 1, rfl, SqT_extN hA e7, extN_rowsL e7 R0, SqT.of hl7, hl, (fun r hr => by rw [(G0.2 r hr).1]; decide), by decide, by decide, by decide, okL, T5.ext s7, fun H8 e8 n8 T8 => ⟨fun hFF => absurd hFF hF.1, fun t x y i c c' h1 h2 h3 h4 h5 _ nt ht hx hy => ?_⟩⟩
      obtain ⟨rfl, rfl⟩ := hF.2 i c c' h1 h2 h3 h4 h5
      dsimp only [gName]
      refine ⟨_, rfl, rfl, _, rfl, iteT ?_⟩
      refine ⟨.ref l, rfl, .ref t, rfl, t, _, _, _, rfl, rfl, SqT.of ht, rfl, .ref t, rfl, t, _, _, _, rfl, rfl, SqT.of ht, rfl, (by show 3 ≤ sizeLine; decide), fun u nu => ?_⟩
      have s9 := same_new (o := .tup [V.ref l, V.ref x, V.ref y]) nu
      exact q _ u l x y ((e7.trans e8).trans (extN_same s9)) (fun b q => n7 b (n8 b (s9.free q))) (T8.ext s9) (n7 u (n8 u nu)) upd_same (Same.seqT s9 (SqT_extN (SqT.of hl7) e8)) (Same.seqT s9 hx) (Same.seqT s9 hy)
    · rintro σ H6 ⟨z, _⟩
      cases z
end
/-! ### uneven: which witness -/
def spUnev18 (K : PySem.W.Frag) (tabs : List NdefX.NTab) : Sp := fun vs H Q E => ∃ (f k : Nat) (a : Addr) (ts : List V) (rows : List (List Nat)), vs = [.int 3, .ref a, .int f, .int k] ∧ SqT K H a ts ∧ RowsL K H ts rows ∧ rows.length ≤ 20000 ∧ Good 3 3 rows ∧ 1 ≤ f ∧ 1 ≤ k ∧ k ≤ 60 ∧ NdefX.TabsN tabs H ∧
  ((reachE 3 (min 3 (f + k)) rows = min 3 (f + k) ∧ ∀ H', Same H H' → Q .non H') ∨
   ∃ A0 B0, reachE 3 (min 3 (f + k)) rows = 0 ∧ Fst18 rows A0 B0 ∧ ∀ H' t l x y, LamX.ExtN H H' → (∀ b, H' b = none → H b = none) → NdefX.TabsN tabs H' → H t = none → H' t = some (.tup [.ref l, .ref x, .ref y]) → SqT K H' l (setV [0, 1, 2]) → SqT K H' x (setV [A0]) → SqT K H' y (setV [B0]) → Q (.ref t) H')
section
variable {P : Program} {w : World} {K : PySem.W.Frag} {mg : Str → Option Value} {base : Heap}
theorem ok_unev (T : Txt K mg) (B : TBs T base) {j : Nat} : FnOk P w K mg base (L2.CX P w) (j + 8) T.fUnev T.fdUnev ["n", "table", "failures", "factor"] (spUnev18 K (tabsOf T)) := by
  refine T.FUnev.okX scUnev (fun vs H Q E h => ?_) (fun cdv A outer s H vs Q E hr h => ?_)
  · obtain ⟨f, k, a, ts, rows, rfl, _⟩ := h
    rfl
  · obtain ⟨f, k, a, ts, rows, rfl, hA, R0, hl, G0, hf, hk, hk60, hT, hq⟩ := h
    refine ⟨_, pss_cons (ps_expr (pe_call (ok_chkr T) hr (by rfl) T.gChkR T.FChkR.kp T.bChkR .nil (passes_call (takes_of rfl rfl rfl rfl) (fun _ _ _ _ h => h)) (pa_cons (pv 0) (pa_cons (pv 1) (pa_cons (pv 2) (pa_cons (pv 3) pa_nil)))))) (pss_cons (ps_set (i := 4) scUnev.nd rfl (.inl rfl) (pe_call (ok_fulev T) hr (by rfl) T.gFULev T.FFULev.kp T.bFULev .nil pass0 (pa_cons (pv 0) (pa_cons (pv 1) (pa_cons (pv 2) (pa_cons (pv 3) pa_nil)))))) (pss_cons (ps_if (pt_cmpR op_isN (pv 4) pe_non (nomark _)) (pss_one (ps_ret pe_non)) pss_nil) (pss_one (ps_ret (pe_call (ok_witn T B) hr (by rfl) T.gWitn T.FWitn.kp T.bWitn .nil pass0 (pa_cons (pv 0) (pa_cons (pv 1) (pa_cons (pv 4) (pa_cons (pv 3) pa_nil))))))))), ?_⟩
    have hlen : ∀ r, rows.head? = some r → r.length = 3 := fun r hr => (G0.2 r (List.mem_of_mem_head? hr)).1
    refine ⟨_, rfl, .ref a, rfl, _, rfl, _, rfl, 3, f, k, a, ts, rows, rfl, hA, R0, fun ok H1 s1 => ?_, fun r t h1 h2 h3 => absurd h3 (by rw [hlen r h1]; omega)⟩
    refine ⟨_, rfl, .ref a, rfl, _, rfl, _, rfl, 3, f, k, 3, a, ts, rows, rfl, Same.seqT s1 hA, R0.same s1, hl, G0, by decide, by decide, by omega, fun H2 s2 => ?_⟩
    dsimp only [gName]
    have s02 := s1.trans s2
    unfold unevE
    rcases hq with ⟨c, q⟩ | ⟨A0, B0, c, hF, q⟩
    · rw [if_pos c]
      refine ⟨_, rfl, rfl, _, rfl, iteT ?_⟩
      exact q H2 s02
    · rw [if_neg (by omega), c]
      refine ⟨_, rfl, rfl, _, rfl, iteF ?_⟩
      refine ⟨_, rfl, .ref a, rfl, _, rfl, _, rfl, a, ts, rows, k, A0, B0, rfl, Same.seqT s02 hA, R0.same s02, hl, G0, hk, hk60, hF, hT.ext s02, fun H3 t l x y e3 n3 T3 nt ht hl hx hy => ?_⟩
      exact q H3 t l x y ((extN_same s02).trans e3) (fun b q => s02.free (n3 b q)) T3 (s02.free nt) ht hl hx hy
end
/-! ### is_claim, of a witness -/
theorem dp_setV {K : PySem.W.Frag} {H : Hp} {a : Addr} {ms : List Nat} (h : SqT K H a (setV ms)) : Dp K H (.ref a) (.tuple (natD ms)) := by
  refine .tup h ?_
  clear h
  induction ms with
  | nil => exact .nil
  | cons m r ih => exact .cons (.int _) ih
theorem tyN_inW (d : PyData) : tyN d ∈ tyNames := by
  cases d with
  | none => exact (by decide : "NoneType" ∈ tyNames)
  | bool _ => exact (by decide : "bool" ∈ tyNames)
  | int _ => exact (by decide : "int" ∈ tyNames)
  | str _ => exact (by decide : "str" ∈ tyNames)
  | list _ => exact (by decide : "list" ∈ tyNames)
  | tuple _ => exact (by decide : "tuple" ∈ tyNames)
  | dict _ => exact (by decide : "dict" ∈ tyNames)
/-- a witness: live servers, fewer, more -/
structure WitOk (n m q : Nat) (rows : List (List Nat)) (L A B : List Nat) : Prop where
  asc : Asc L
  lt : ∀ y ∈ L, y < n
  len : L.length + m = n
  fewer : A ∈ combs L q
  more : B ∈ combs L q
  less : heldN L q rows A < heldN L q rows B
theorem chk_asc {n : Nat} : ∀ {ms : List Nat} {lo : Nat}, Asc ms → (∀ y ∈ ms, lo ≤ y) → (∀ y ∈ ms, y < n) → chk n lo (natD ms) = true
  | [], _, _, _, _ => rfl
  | m :: r, lo, ha, hlo, hn => by
    obtain ⟨h1, h2⟩ := List.pairwise_cons.mp ha
    show (decide ((lo : Int) ≤ (m : Int)) && (decide ((m : Int) < (n : Int)) && chk n ((m : Int) + 1) (natD r))) = true
    have a1 := hlo m List.mem_cons_self
    have a2 := hn m List.mem_cons_self
    rw [decide_eq_true (by omega), decide_eq_true (by omega), show ((m : Int) + 1) = ((m + 1 : Nat) : Int) by omega, chk_asc h2 (fun y hy => h1 y hy) (fun y hy => hn y (List.mem_cons_of_mem _ hy))]
    rfl
theorem item_setV {K : PySem.W.Frag} {H : Hp} {a : Addr} {ms : List Nat} (h : SqT K H a (setV ms)) (hl : ms.length ≤ 60) (h60 : ∀ x ∈ ms, x < 60) : ItemV K H (.ref a) (.tuple (natD ms)) := .inl ⟨dp_setV h, (sh_list hl h60).mono (by decide) (by decide)⟩
def spIsClaim (K : PySem.W.Frag) : Sp := fun vs H Q _ => ∃ (n f k : Nat) (t l x y : Addr) (L A B : List Nat) (q : Nat), vs = [.int n, .int f, .int k, .ref t] ∧ H t = some (.tup [.ref l, .ref x, .ref y]) ∧ SqT K H l (setV L) ∧ SqT K H x (setV A) ∧ SqT K H y (setV B) ∧
  Asc L ∧ (∀ y ∈ L, y < n) ∧ A.Sublist L ∧ B.Sublist L ∧ A.length = q ∧ B.length = q ∧ n ≤ L.length + f ∧ 1 ≤ q ∧ q ≤ k ∧ n ≤ 60 ∧ ∀ H', Same H H' → Q (.bl true) H'
def spClaimN : Sp := fun vs H Q _ => ∃ n f k : Nat, vs = [.int n, .int f, .int k, .non] ∧ Q (.bl false) H
theorem FnOk.or18 {P : Program} {w : World} {K : PySem.W.Frag} {mg : Str → Option Value} {base : Heap} {CX : CXT} {k : Nat} {f : Addr} {fd : FuncData} {ps : List Str} {s1 s2 : Sp} (a : FnOk P w K mg base CX k f fd ps s1) (b : FnOk P w K mg base CX k f fd ps s2) : FnOk P w K mg base CX k f fd ps (fun vs H Q E => s1 vs H Q E ∨ s2 vs H Q E) :=
  ⟨fun vs H Q E h => h.elim (a.1 _ _ _ _) (b.1 _ _ _ _), fun A o s H args us vs Q E r e0 bnd rel wish => wish.elim (a.2 A o s H args us vs Q E r e0 bnd rel) (b.2 A o s H args us vs Q E r e0 bnd rel)⟩
section
variable {P : Program} {w : World} {K : PySem.W.Frag} {mg : Str → Option Value} {base : Heap}
theorem ok_isclaimW (T : Txt K mg) {j : Nat} : FnOk P w K mg base CX0 (j + 3) T.fIsClaim T.fdIsClaim ["n", "failures", "factor", "thing"] (spIsClaim K) := by
  refine T.FIsClaim.ok scIsClaim (fun vs H Q E h => ?_) (fun cdv A0 outer s H vs Q E hr h => ?_)
  · obtain ⟨n, f, k, t, l, x, y, L, A, B, qq, rfl, _⟩ := h
    rfl
  · obtain ⟨n, f, k, t, l, x, y, L, A, B, qq, rfl, ht, hL, hX, hY, aL, ltL, sA, sB, lA, lB, lf, hq1, hqk, hn, q⟩ := h
    refine ⟨_, pss_cons (ps_if (PW.pt (pw_or (pt_not (pt_val (pe_callB (call_isiK1 K) (by rfl) T.n_isinstance (by decide +kernel) (pa_cons (pv 3) (pa_cons (pe_bltn (v := .ty "tuple") (by rfl) T.n_tuple (by decide +kernel) rfl) pa_nil))))) (pw_or1 (pt_cmpR op_ne (pe_callB (call_lenK K) (by rfl) T.n_len PySem.boot_len (pa_cons (pv 3) pa_nil)) pe_int (nomark _))))) (pss_one (ps_ret pe_bl)) pss_nil) (pss_cons (ps_for PassesOwn.never rfl (pi_tup (pv 3)) (pg_name (i := 4) scIsClaim.nd rfl (.inl rfl)) (pss_one (ps_if (pt_not (pt_val (pe_call (ok_set T) hr (by rfl) T.gSet T.FSet.kp T.bSet .nil pass0 (pa_cons (pv 0) (pa_cons (pv 4) pa_nil))))) (pss_one (ps_ret pe_bl)) pss_nil))) (pss_cons (ps_asg (pv 3) (pg_tup rfl (pgs_cons (pg_name (i := 5) scIsClaim.nd rfl (.inl rfl)) (pgs_cons (pg_name (i := 6) scIsClaim.nd rfl (.inl rfl)) (pgs_cons (pg_name (i := 7) scIsClaim.nd rfl (.inl rfl)) pgs_nil))))) (pss_cons (ps_if (PW.pt (pw_or (pt_cmpR op_lt (pe_callB (call_lenK K) (by rfl) T.n_len PySem.boot_len (pa_cons (pv 5) pa_nil)) (pe_op op_sub (pv 0) (pv 1)) (nomark _)) (pw_or1 (pt_cmpR op_gt (pe_callB (call_lenSet (w := w)) (by rfl) T.n_len PySem.boot_len (pa_cons (pe_op (op_setSub (w := w)) (pe_callTy (cr_setTn (K := K) (w := w) rfl) (by rfl) T.n_set (by decide +kernel) (pa_cons (pe_op (op_catS K) (pv 6) (pv 7)) pa_nil)) (pe_callTy (cr_setTn (K := K) (w := w) rfl) (by rfl) T.n_set (by decide +kernel) (pa_cons (pv 5) pa_nil))) pa_nil)) pe_int (nomark _))))) (pss_one (ps_ret pe_bl)) pss_nil) (pss_one (ps_ret (pe_and (pe_cmpR op_eq (pe_callB (call_lenK K) (by rfl) T.n_len PySem.boot_len (pa_cons (pv 6) pa_nil)) (pe_callB (call_lenK K) (by rfl) T.n_len PySem.boot_len (pa_cons (pv 7) pa_nil)) (nomark _)) (pe_one (pe_chain op_le op_le pe_int (pe_callB (call_lenK K) (by rfl) T.n_len PySem.boot_len (pa_cons (pv 6) pa_nil)) (pe_callB (call_min2 rfl) (by rfl) T.n_min (by decide +kernel) (pa_cons (pv 2) (pa_cons (pe_callB (call_lenK K) (by rfl) T.n_len PySem.boot_len (pa_cons (pv 5) pa_nil)) pa_nil))))))))))), ?_⟩
    have lL : qq ≤ L.length := by rw [← lA]; exact sA.length_le
    have Ln : L.length ≤ n := by
      have := live_dead aL ltL
      omega
    have hL60 : ∀ y ∈ L, y < 60 := fun y hy => Nat.lt_of_lt_of_le (ltL y hy) hn
    have dt : Dp K H (.ref t) (.tuple [.tuple (natD L), .tuple (natD A), .tuple (natD B)]) := .tup (SqT.of ht) (.cons (dp_setV hL) (.cons (dp_setV hX) (.cons (dp_setV hY) .nil)))
    have item : ∀ (i : Nat) (v : V), [V.ref l, V.ref x, V.ref y][i]? = some v → ∃ z M, v = .ref z ∧ SqT K H z (setV M) ∧ Asc M ∧ (∀ y ∈ M, y < n) ∧ M.length ≤ 60 := fun i v hv => by
      match i, hv with
      | 0, hv =>
        obtain rfl := Option.some.inj (show some (V.ref l) = some v from hv)
        exact ⟨l, L, rfl, hL, aL, ltL, by omega⟩
      | 1, hv =>
        obtain rfl := Option.some.inj (show some (V.ref x) = some v from hv)
        exact ⟨x, A, rfl, hX, aL.sublist sA, fun y hy => ltL y (sA.subset hy), by have := sA.length_le; omega⟩
      | 2, hv =>
        obtain rfl := Option.some.inj (show some (V.ref y) = some v from hv)
        exact ⟨y, B, rfl, hY, aL.sublist sB, fun y hy => ltL y (sB.subset hy), by have := sB.length_le; omega⟩
      | i + 3, hv => simp at hv
    refine ⟨.ref t, rfl, .ref t, .ty "tuple", _, _, _, rfl, .ty _, Ef.Dp.ty dt, kit_tuple (tyN_inW _), _, rfl, iteF ?_⟩
    refine ⟨.ref t, rfl, t, _, rfl, .inr (SqT.of ht), rfl, _, rfl, iteNS rfl ?_⟩
    refine ⟨.ref t, rfl, t, rfl, ⟨_, SqT.of ht⟩, ?_⟩
    refine for_tup (K := K) (a := t) (xs := [V.ref l, V.ref x, V.ref y]) (fun i σ H2 => ∃ v4, σ = [some (.int (n : Int)), some (.int (f : Int)), some (.int (k : Int)), some (.ref t), v4, none, none, none] ∧ H2 = H) ⟨none, rfl, rfl⟩ (fun i σ H2 _ ⟨_, _, e⟩ => e ▸ SqT.of ht) ?_ ?_
    · rintro i v σ H2 hv ⟨v4, rfl, rfl⟩
      obtain ⟨z, M, rfl, hz, aM, ltM, lM⟩ := item i v hv
      dsimp only [gName]
      refine ⟨_, rfl, .ref z, rfl, n, .ref z, .tuple (natD M), rfl, item_setV hz lM fun y hy => Nat.lt_of_lt_of_le (ltM y hy) hn, ?_⟩
      rw [show setD (n : Int) (.tuple (natD M)) = true from chk_asc (lo := 0) aM (fun y _ => Nat.zero_le y) ltM]
      exact ⟨_, rfl, iteF ⟨_, rfl, rfl⟩⟩
    rintro σ H2 ⟨v4, rfl, rfl⟩
    refine ⟨.ref t, rfl, t, _, rfl, SqT.of ht, rfl, ?_⟩
    dsimp only [gCons, gName, gNil]
    refine ⟨_, _, rfl, _, _, rfl, _, _, rfl, rfl, ?_⟩
    refine ⟨.ref l, rfl, l, _, rfl, .inr hL, _, rfl, _, rfl, _, _, rfl, rfl, _, _, rfl, rfl, _, rfl, ?_⟩
    rw [show decide ((((setV L).length : Nat) : Int) < (n : Int) - (f : Int)) = false from decide_eq_false (by rw [setV_len]; omega)]
    refine iteF ?_
    have lAB : (A ++ B).length = 2 * qq := by rw [List.length_append]; omega
    refine ⟨.ref x, rfl, .ref y, rfl, x, y, _, _, rfl, rfl, hX, hY, by rw [setV_len, setV_len, sizeLine_eq]; omega, fun p H3 s3 hp => ?_⟩
    rw [← setV_app, setV_ints] at hp
    refine ⟨p, _, rfl, hp, by rw [List.length_map]; omega, fun p1 c1 np1 d1 => ?_⟩
    have s4 := same_new (o := SetO w p1 (fun j => decide (j ∈ (A ++ B).map fun (m : Nat) => (m : Int))) c1) np1
    have hL4 := Same.seqT (s3.trans s4) hL
    rw [setV_ints] at hL4
    refine ⟨.ref l, rfl, l, _, rfl, hL4, by rw [List.length_map]; omega, fun p2 c2 np2 d2 => ?_⟩
    have s5 := same_new (o := SetO w p2 (fun j => decide (j ∈ L.map fun (m : Nat) => (m : Int))) c2) np2
    have nd2 : (L.map fun (m : Nat) => (m : Int)).Nodup := List.pairwise_map.mpr ((asc_nodup aL).imp fun z e => z (by omega))
    have e2 := d2.nodup nd2
    have e1 := d1.le
    rw [List.length_map] at e1 e2
    refine ⟨p1, p2, _, _, c1, c2, rfl, rfl, s5 _ _ upd_same, upd_same, by omega, by omega, fun r m nr hks => ?_⟩
    obtain ⟨ks, _, mem, rfl⟩ := hks
    have ks0 : ks = [] := List.eq_nil_iff_forall_not_mem.mpr fun j hj => by
      have h1 := (mem j).mp hj
      rw [Bool.and_eq_true] at h1
      obtain ⟨h1, h2⟩ := h1
      obtain ⟨mm, hm, rfl⟩ := List.mem_map.mp (of_decide_eq_true h1)
      have hmL : mm ∈ L := by
        rcases List.mem_append.mp hm with h | h
        · exact sA.subset h
        · exact sB.subset h
      rw [decide_eq_true (List.mem_map.mpr ⟨mm, hmL, rfl⟩)] at h2
      cases h2
    subst ks0
    have s6 := same_new (o := SetO w r (fun k => decide (k ∈ (A ++ B).map fun (m : Nat) => (m : Int)) && !decide (k ∈ L.map fun (m : Nat) => (m : Int))) 0) nr
    refine ⟨r, _, _, rfl, upd_same, _, _, rfl, rfl, _, rfl, iteF ?_⟩
    have s36 := ((s3.trans s4).trans s5).trans s6
    have hX6 := Same.seqT s36 hX
    have hY6 := Same.seqT s36 hY
    have hL6 := Same.seqT s36 hL
    have q6 := fun H' (s' : Same _ H') => q H' (s36.trans s')
    generalize upd _ r _ = H6 at hX6 hY6 hL6 q6 ⊢
    refine ⟨.ref x, rfl, x, _, rfl, .inr hX6, .ref y, rfl, y, _, rfl, .inr hY6, rfl, ?_⟩
    rw [setV_len, setV_len, lA, lB, decide_eq_true rfl]
    refine ⟨_, rfl, iteT ?_⟩
    refine ⟨.ref x, rfl, x, _, rfl, .inr hX6, _, _, rfl, rfl, _, rfl, ?_⟩
    rw [setV_len, lA, show decide ((1 : Int) ≤ (qq : Int)) = true from decide_eq_true (by omega)]
    refine iteT ?_
    refine ⟨_, rfl, .ref l, rfl, l, _, rfl, .inr hL6, _, _, rfl, _, _, rfl, rfl, ?_⟩
    have fin := q6 H6 (Same.refl _)
    dsimp only
    rw [setV_len, show decide ((qq : Int) ≤ if (L.length : Int) < (k : Int) then (L.length : Int) else (k : Int)) = true from decide_eq_true (by split <;> omega)]
    exact fin
theorem ok_isclaimN (T : Txt K mg) {j : Nat} : FnOk P w K mg base CX0 (j + 3) T.fIsClaim T.fdIsClaim ["n", "failures", "factor", "thing"] spClaimN := by
  refine T.FIsClaim.ok scIsClaim (fun vs H Q E h => ?_) (fun cdv A0 outer s H vs Q E hr h => ?_)
  · obtain ⟨n, f, k, rfl, _⟩ := h
    rfl
  · obtain ⟨n, f, k, rfl, q⟩ := h
    refine ⟨_, pss_cons (ps_if (PW.pt (pw_or (pt_not (pt_val (pe_callB (call_isiK1 K) (by rfl) T.n_isinstance (by decide +kernel) (pa_cons (pv 3) (pa_cons (pe_bltn (v := .ty "tuple") (by rfl) T.n_tuple (by decide +kernel) rfl) pa_nil))))) (pw_or1 (pt_cmpR op_ne (pe_callB (call_lenK K) (by rfl) T.n_len PySem.boot_len (pa_cons (pv 3) pa_nil)) pe_int (nomark _))))) (pss_one (ps_ret pe_bl)) pss_nil) (pss_cons (ps_for PassesOwn.never rfl (pi_tup (pv 3)) (pg_name (i := 4) scIsClaim.nd rfl (.inl rfl)) (pss_one (ps_if (pt_not (pt_val (pe_call (ok_set T) hr (by rfl) T.gSet T.FSet.kp T.bSet .nil pass0 (pa_cons (pv 0) (pa_cons (pv 4) pa_nil))))) (pss_one (ps_ret pe_bl)) pss_nil))) (pss_cons (ps_asg (pv 3) (pg_tup rfl (pgs_cons (pg_name (i := 5) scIsClaim.nd rfl (.inl rfl)) (pgs_cons (pg_name (i := 6) scIsClaim.nd rfl (.inl rfl)) (pgs_cons (pg_name (i := 7) scIsClaim.nd rfl (.inl rfl)) pgs_nil))))) (pss_cons (ps_if (PW.pt (pw_or (pt_cmpR op_lt (pe_callB (call_lenK K) (by rfl) T.n_len PySem.boot_len (pa_cons (pv 5) pa_nil)) (pe_op op_sub (pv 0) (pv 1)) (nomark _)) (pw_or1 (pt_cmpR op_gt (pe_callB (call_lenSet (w := w)) (by rfl) T.n_len PySem.boot_len (pa_cons (pe_op (op_setSub (w := w)) (pe_callTy (cr_setTn (K := K) (w := w) rfl) (by rfl) T.n_set (by decide +kernel) (pa_cons (pe_op (op_catS K) (pv 6) (pv 7)) pa_nil)) (pe_callTy (cr_setTn (K := K) (w := w) rfl) (by rfl) T.n_set (by decide +kernel) (pa_cons (pv 5) pa_nil))) pa_nil)) pe_int (nomark _))))) (pss_one (ps_ret pe_bl)) pss_nil) (pss_one (ps_ret (pe_and (pe_cmpR op_eq (pe_callB (call_lenK K) (by rfl) T.n_len PySem.boot_len (pa_cons (pv 6) pa_nil)) (pe_callB (call_lenK K) (by rfl) T.n_len PySem.boot_len (pa_cons (pv 7) pa_nil)) (nomark _)) (pe_one (pe_chain op_le op_le pe_int (pe_callB (call_lenK K) (by rfl) T.n_len PySem.boot_len (pa_cons (pv 6) pa_nil)) (pe_callB (call_min2 rfl) (by rfl) T.n_min (by decide +kernel) (pa_cons (pv 2) (pa_cons (pe_callB (call_lenK K) (by rfl) T.n_len PySem.boot_len (pa_cons (pv 5) pa_nil)) pa_nil))))))))))), ?_⟩
    refine ⟨_, rfl, .non, .ty "tuple", _, _, _, rfl, .ty _, .base .non, kit_tuple (by decide), _, rfl, iteT ?_⟩
    exact iteT q
theorem ok_isclaim (T : Txt K mg) {j : Nat} : FnOk P w K mg base CX0 (j + 3) T.fIsClaim T.fdIsClaim ["n", "failures", "factor", "thing"] (fun vs H Q E => spIsClaim K vs H Q E ∨ spClaimN vs H Q E) := FnOk.or18 (ok_isclaimW T) (ok_isclaimN T)
end
/-! ### shows_uneven, of a witness -/
def spShowsU (K : PySem.W.Frag) : Sp := fun vs H Q _ => ∃ (n f k d : Nat) (a t l x y : Addr) (ts : List V) (rows : List (List Nat)) (L A B : List Nat) (m q : Nat), vs = [.int n, .ref a, .int f, .int k, .ref t] ∧ SqT K H a ts ∧ RowsL K H ts rows ∧ rows.length ≤ 20000 ∧ Good n d rows ∧ d ≤ n ∧ min n (f + k) ≤ d ∧
  H t = some (.tup [.ref l, .ref x, .ref y]) ∧ SqT K H l (setV L) ∧ SqT K H x (setV A) ∧ SqT K H y (setV B) ∧ WitOk n m q rows L A B ∧ m ≤ f ∧ 1 ≤ q ∧ q ≤ k ∧ n ≤ 60 ∧ ∀ H', Same H H' → Q (.bl true) H'
def spShowsN (K : PySem.W.Frag) : Sp := fun vs H Q _ => ∃ (n f k d : Nat) (a : Addr) (ts : List V) (rows : List (List Nat)), vs = [.int n, .ref a, .int f, .int k, .non] ∧ SqT K H a ts ∧ RowsL K H ts rows ∧ Good n d rows ∧ min n (f + k) ≤ d ∧ ∀ H', Same H H' → Q (.bl false) H'
section
variable {P : Program} {w : World} {K : PySem.W.Frag} {mg : Str → Option Value} {base : Heap}
theorem ok_showsuW (T : Txt K mg) {j : Nat} : FnOk P w K mg base (L2.CX P w) (j + 5) T.fShowsU T.fdShowsU ["n", "table", "failures", "factor", "thing"] (spShowsU K) := by
  refine T.FShowsU.okX scShowsU (fun vs H Q E h => ?_) (fun cdv A0 outer s H vs Q E hr h => ?_)
  · obtain ⟨n, f, k, d, a, t, l, x, y, ts, rows, L, A, B, m, qq, rfl, _⟩ := h
    rfl
  · obtain ⟨n, f, k, d, a, t, l, x, y, ts, rows, L, A, B, m, qq, rfl, hA, R0, hl, G0, hd, hc, ht, hL, hX, hY, W, hmf, hq1, hqk, hn, q⟩ := h
    have hu9 : (A0.deeper (envOfC "shows_uneven" (defScope sShowsU) s.heap.objs.size T.fShowsU cdv)).units + 9 < cLine := u9_of hr
    refine ⟨_, pss_cons (ps_expr (pe_call (ok_chkr T) hr (by rfl) T.gChkR T.FChkR.kp T.bChkR .nil (passes_call (takes_of rfl rfl rfl rfl) (fun _ _ _ _ h => h)) (pa_cons (pv 0) (pa_cons (pv 1) (pa_cons (pv 2) (pa_cons (pv 3) pa_nil)))))) (pss_cons (ps_if (pt_not (pt_val (pe_call (ok_isclaim T) hr (by rfl) T.gIsClaim T.FIsClaim.kp T.bIsClaim .nil pass0 (pa_cons (pv 0) (pa_cons (pv 2) (pa_cons (pv 3) (pa_cons (pv 4) pa_nil))))))) (pss_one (ps_ret pe_bl)) pss_nil) (pss_cons (ps_asg (pv 4) (pg_tup rfl (pgs_cons (pg_name (i := 5) scShowsU.nd rfl (.inl rfl)) (pgs_cons (pg_name (i := 6) scShowsU.nd rfl (.inl rfl)) (pgs_cons (pg_name (i := 7) scShowsU.nd rfl (.inl rfl)) pgs_nil))))) (pss_cons (ps_set (i := 8) scShowsU.nd rfl (.inl rfl) (pe_call (ok_helds T) hr (by rfl) T.gHelds T.FHelds.kp T.bHelds .nil (passes_call (takes_of rfl rfl rfl rfl) (fun _ _ _ _ h => h)) (pa_cons (pv 1) (pa_cons (pv 5) (pa_cons (pe_callB (call_lenK K) (by rfl) T.n_len PySem.boot_len (pa_cons (pv 6) pa_nil)) pa_nil))))) (pss_one (ps_ret (pe_cmpR op_lt (pe_bmN (P := P) (w := w) PySem.F.slot_dict_get PySem.F.type_dict_get (mt_getDN (P := P) (w := w) K hu9) (pv 8) (pa_cons (pv 6) (pa_cons pe_int pa_nil))) (pe_bmN (P := P) (w := w) PySem.F.slot_dict_get PySem.F.type_dict_get (mt_getDN (P := P) (w := w) K hu9) (pv 8) (pa_cons (pv 7) (pa_cons pe_int pa_nil))) (nomark _))))))), ?_⟩
    obtain ⟨lA, sA⟩ := combs_good _ _ A W.fewer
    obtain ⟨lB, sB⟩ := combs_good _ _ B W.more
    have lL : qq ≤ L.length := by rw [← lA]; exact sA.length_le
    have wl := W.len
    have hlen : ∀ r, rows.head? = some r → r.length = d := fun r hr => (G0.2 r (List.mem_of_mem_head? hr)).1
    refine ⟨_, rfl, .ref a, rfl, _, rfl, _, rfl, n, f, k, a, ts, rows, rfl, hA, R0, fun _ H1 s1 => ?_, fun r t h1 h2 h3 => absurd h3 (by rw [hlen r h1]; omega)⟩
    have hX1 := Same.seqT s1 hX
    have hY1 := Same.seqT s1 hY
    have hL1 := Same.seqT s1 hL
    refine ⟨_, rfl, _, rfl, _, rfl, .ref t, rfl, .inl ⟨n, f, k, t, l, x, y, L, A, B, qq, rfl, s1 _ _ ht, hL1, hX1, hY1, W.asc, W.lt, sA, sB, lA, lB, by omega, hq1, hqk, hn, fun H2 s2 => ?_⟩⟩
    refine ⟨_, rfl, iteF ?_⟩
    have s12 := s1.trans s2
    have hX2 := Same.seqT s12 hX
    have hY2 := Same.seqT s12 hY
    have hL2 := Same.seqT s12 hL
    refine ⟨.ref t, rfl, t, _, rfl, SqT.of (s12 _ _ ht), rfl, ?_⟩
    dsimp only [gCons, gName, gNil]
    refine ⟨_, _, rfl, _, _, rfl, _, _, rfl, rfl, ?_⟩
    refine ⟨.ref a, rfl, .ref l, rfl, .ref x, rfl, x, _, rfl, .inr hX2, a, l, ts, rows, L, qq, ?_, Same.seqT s12 hA, R0.same s12, Same.seqT s12 hL, hl, (fun r hr => by have := (G0.2 r hr).1; omega), by omega, lL, fun _ H3 dd s3 nd hD => ?_, ?_⟩
    · rw [setV_len, lA]
      rfl
    · dsimp only [gName]
      replace hD : DAt P w K H3 dd _ := hD
      have s13 := s12.trans s3
      obtain ⟨xs6, e6, _⟩ := id hD
      refine ⟨.ref dd, rfl, ⟨dd, xs6, rfl, e6⟩, .ref x, rfl, dd, x, .int 0, _, nkT A, rfl, rfl, hD, nkT_at (Same.seqT s13 hX), nkT_depth _, ?_⟩
      rw [tally_get]
      refine ⟨.ref dd, rfl, ⟨dd, xs6, rfl, e6⟩, .ref y, rfl, dd, y, .int 0, _, nkT B, rfl, rfl, hD, nkT_at (Same.seqT s13 hY), nkT_depth _, ?_⟩
      rw [tally_get]
      have e1 : (rows.map (keyL L qq)).count A = heldN L qq rows A := ldC_held L qq rows A
      have e2 : (rows.map (keyL L qq)).count B = heldN L qq rows B := ldC_held L qq rows B
      rw [e1, e2]
      refine ⟨_, _, rfl, rfl, ?_⟩
      have fin := q H3 s13
      dsimp only
      rw [show decide (((heldN L qq rows A : Nat) : Int) < ((heldN L qq rows B : Nat) : Int)) = true from decide_eq_true (by have := W.less; omega)]
      exact fin
    · intro i r tt h1 h2 h3 h4
      exact absurd (enough G0.2 W.asc W.lt (q := qq) (by omega) r (List.mem_of_getElem? h1)) h4
theorem ok_showsuN (T : Txt K mg) {j : Nat} : FnOk P w K mg base (L2.CX P w) (j + 5) T.fShowsU T.fdShowsU ["n", "table", "failures", "factor", "thing"] (spShowsN K) := by
  refine T.FShowsU.okX scShowsU (fun vs H Q E h => ?_) (fun cdv A0 outer s H vs Q E hr h => ?_)
  · obtain ⟨n, f, k, d, a, ts, rows, rfl, _⟩ := h
    rfl
  · obtain ⟨n, f, k, d, a, ts, rows, rfl, hA, R0, G0, hc, q⟩ := h
    have hu9 : (A0.deeper (envOfC "shows_uneven" (defScope sShowsU) s.heap.objs.size T.fShowsU cdv)).units + 9 < cLine := u9_of hr
    refine ⟨_, pss_cons (ps_expr (pe_call (ok_chkr T) hr (by rfl) T.gChkR T.FChkR.kp T.bChkR .nil (passes_call (takes_of rfl rfl rfl rfl) (fun _ _ _ _ h => h)) (pa_cons (pv 0) (pa_cons (pv 1) (pa_cons (pv 2) (pa_cons (pv 3) pa_nil)))))) (pss_cons (ps_if (pt_not (pt_val (pe_call (ok_isclaim T) hr (by rfl) T.gIsClaim T.FIsClaim.kp T.bIsClaim .nil pass0 (pa_cons (pv 0) (pa_cons (pv 2) (pa_cons (pv 3) (pa_cons (pv 4) pa_nil))))))) (pss_one (ps_ret pe_bl)) pss_nil) (pss_cons (ps_asg (pv 4) (pg_tup rfl (pgs_cons (pg_name (i := 5) scShowsU.nd rfl (.inl rfl)) (pgs_cons (pg_name (i := 6) scShowsU.nd rfl (.inl rfl)) (pgs_cons (pg_name (i := 7) scShowsU.nd rfl (.inl rfl)) pgs_nil))))) (pss_cons (ps_set (i := 8) scShowsU.nd rfl (.inl rfl) (pe_call (ok_helds T) hr (by rfl) T.gHelds T.FHelds.kp T.bHelds .nil (passes_call (takes_of rfl rfl rfl rfl) (fun _ _ _ _ h => h)) (pa_cons (pv 1) (pa_cons (pv 5) (pa_cons (pe_callB (call_lenK K) (by rfl) T.n_len PySem.boot_len (pa_cons (pv 6) pa_nil)) pa_nil))))) (pss_one (ps_ret (pe_cmpR op_lt (pe_bmN (P := P) (w := w) PySem.F.slot_dict_get PySem.F.type_dict_get (mt_getDN (P := P) (w := w) K hu9) (pv 8) (pa_cons (pv 6) (pa_cons pe_int pa_nil))) (pe_bmN (P := P) (w := w) PySem.F.slot_dict_get PySem.F.type_dict_get (mt_getDN (P := P) (w := w) K hu9) (pv 8) (pa_cons (pv 7) (pa_cons pe_int pa_nil))) (nomark _))))))), ?_⟩
    have hlen : ∀ r, rows.head? = some r → r.length = d := fun r hr => (G0.2 r (List.mem_of_mem_head? hr)).1
    refine ⟨_, rfl, .ref a, rfl, _, rfl, _, rfl, n, f, k, a, ts, rows, rfl, hA, R0, fun _ H1 s1 => ?_, fun r t h1 h2 h3 => absurd h3 (by rw [hlen r h1]; omega)⟩
    refine ⟨_, rfl, _, rfl, _, rfl, _, rfl, .inr ⟨n, f, k, rfl, ?_⟩⟩
    exact ⟨_, rfl, iteT (q H1 s1)⟩
theorem ok_showsu (T : Txt K mg) {j : Nat} : FnOk P w K mg base (L2.CX P w) (j + 5) T.fShowsU T.fdShowsU ["n", "table", "failures", "factor", "thing"] (fun vs H Q E => spShowsU K vs H Q E ∨ spShowsN K vs H Q E) := FnOk.or18 (ok_showsuW T) (ok_showsuN T)
end
/-! ### the law's pot of drawn numbers -/
def PotAt (H : Hp) (p : Addr) (m : Nat) : Prop := ∃ a b c : Int, H p = some (.lst [.int a, .int b, .int c]) ∧ (0 ≤ a ∧ a < 10 ^ 300) ∧ (0 ≤ b ∧ b < 2305843009213693951) ∧ 0 ≤ c ∧ c ≤ (m : Int)
theorem PotAt.mono {H : Hp} {p : Addr} {m n : Nat} (h : PotAt H p m) (l : m ≤ n) : PotAt H p n := by
  obtain ⟨a, b, c, h1, h2, h3, h4, h5⟩ := h
  exact ⟨a, b, c, h1, h2, h3, h4, by omega⟩
theorem PotAt.same {H H' : Hp} {p : Addr} {m : Nat} (h : PotAt H p m) (s : Same H H') : PotAt H' p m := by
  obtain ⟨a, b, c, h1, h2⟩ := h
  exact ⟨a, b, c, s _ _ h1, h2⟩
theorem PotAt.ne {H : Hp} {p q : Addr} {m : Nat} (h : PotAt H p m) (n : H q = none) : p ≠ q := by
  obtain ⟨a, b, c, h1, _⟩ := h
  exact ne_of_none h1 n
def spPot (K : PySem.W.Frag) : Sp := fun vs H Q _ => ∃ (a : Addr) (ns : List Int) (i : Nat), vs = [.ref a, .int i] ∧ SqL K H a (ns.map V.int) ∧ i ≤ 100 ∧ ∀ H' p, Same H H' → H p = none → PotAt H' p 0 → Q (.ref p) H'
def spTake : Sp := fun vs H Q _ => ∃ (p : Addr) (m : Nat) (u : Int), vs = [.ref p, .int u] ∧ PotAt H p m ∧ m ≤ 1000000 ∧ 1 ≤ u ∧ u < 2 ^ 1000 ∧
  ∀ (r : Int) (H' : Hp), 0 ≤ r → r < u → PotAt H' p (m + 1) → But p H H' → Q (.int r) H'
theorem own_ok (x : Int) (c : Bool) : 0 ≤ x % ((10 : Int) ^ (60 : Int).toNat) ^ (5 : Int).toNat * (if c then 1 else 0) ∧ x % ((10 : Int) ^ (60 : Int).toNat) ^ (5 : Int).toNat * (if c then 1 else 0) < 10 ^ 300 := by
  have e : ((10 : Int) ^ (60 : Int).toNat) ^ (5 : Int).toNat = 10 ^ 300 := by decide +kernel
  rw [e]
  have h1 := Int.emod_nonneg x (show (10 : Int) ^ 300 ≠ 0 by decide +kernel)
  have h2 := Int.emod_lt_of_pos x (show (0 : Int) < 10 ^ 300 by decide +kernel)
  cases c with
  | true =>
    rw [if_pos rfl, Int.mul_one]
    exact ⟨h1, h2⟩
  | false =>
    rw [if_neg (by decide), Int.mul_zero]
    exact ⟨Int.le_refl _, by decide +kernel⟩
theorem big_pos : (0 : Int) < ((10 : Int) ^ (60 : Int).toNat) ^ (5 : Int).toNat := by decide +kernel
theorem bit_in (c : Bool) : -(2 ^ 64) < (if c then (1 : Int) else 0) ∧ (if c then (1 : Int) else 0) < 2 ^ 64 := by
  cases c <;> decide
theorem prime_at (i : Int) (h0 : 0 ≤ i) (h5 : i < 5) : ∃ v : Int, atI [V.int 2147483647, V.int 2147483629, V.int 2147483587, V.int 2147483579, V.int 2147483563] i = some (.int v) ∧ 0 < v ∧ v < 2 ^ 32 := by
  have h : i = 0 ∨ i = 1 ∨ i = 2 ∨ i = 3 ∨ i = 4 := by omega
  rcases h with rfl | rfl | rfl | rfl | rfl
  · exact ⟨2147483647, rfl, by decide, by decide⟩
  · exact ⟨2147483629, rfl, by decide, by decide⟩
  · exact ⟨2147483587, rfl, by decide, by decide⟩
  · exact ⟨2147483579, rfl, by decide, by decide⟩
  · exact ⟨2147483563, rfl, by decide, by decide⟩
section
variable {P : Program} {w : World} {K : PySem.W.Frag} {mg : Str → Option Value} {base : Heap}
theorem ok_pot (T : Txt K mg) {j : Nat} : FnOk P w K mg base CX0 (j + 1) T.fPot T.fdPot ["_law_script", "_law_k"] (spPot K) := by
  refine T.FPot.ok scPot (fun vs H Q E h => ?_) (fun cdv A outer s H vs Q E hr h => ?_)
  · obtain ⟨a, ns, i, rfl, _⟩ := h
    rfl
  · obtain ⟨a, ns, i, rfl, hS, hi, q⟩ := h
    refine ⟨_, pss_cons (ps_set (i := 2) scPot.nd rfl (.inl rfl) (pe_op op_add (pe_op op_mul pe_int (pv 1)) pe_int)) (C8.pss_cut (ps_if (pt_cmpR op_lt (pv 1) (pe_callB (call_lenK K) (by rfl) T.n_len PySem.boot_len (pa_cons (pv 0) pa_nil)) (nomark _)) (pss_one (ps_set (i := 2) scPot.nd rfl (.inl rfl) (pe_ix (ix_listK K) (pv 0) (pv 1) (fun _ _ => rfl)))) pss_nil) (pss_cons (ps_set (i := 3) scPot.nd rfl (.inl rfl) (pe_op op_mul (pe_op op_mod (pe_callB call_abs (by rfl) T.n_abs (by decide +kernel) (pa_cons (pv 2) pa_nil)) (pe_op op_powB (pe_op op_pow pe_int pe_int) pe_int)) (pe_callTy call_int1 (by rfl) T.n_int (by decide +kernel) (pa_cons (pe_cmpR op_ge (pe_callB call_abs (by rfl) T.n_abs (by decide +kernel) (pa_cons (pv 2) pa_nil)) (pe_op op_pow pe_int pe_int) (nomark _)) pa_nil)))) (pss_one (ps_ret (pe_lst (pa_cons (pv 3) (pa_cons (pe_op op_mod (pe_op op_add (pe_op op_add (pe_op op_mul (pe_op op_mod (pv 2) pe_int) pe_int) (pe_op op_mul (pe_op op_mul pe_int (pv 1)) (pv 1))) pe_int) pe_int) (pa_cons pe_int pa_nil)))))))), ?_⟩
    refine ⟨_, rfl, _, _, rfl, rfl, .inl ⟨by decide, by decide⟩, _, _, rfl, rfl, ?_⟩
    refine ⟨fun σ H2 => ∃ x : Int, σ = [some (.ref a), some (.int i), some (.int x), none] ∧ H2 = H, ?_, ?_⟩
    · refine ⟨_, rfl, .ref a, rfl, a, _, rfl, .inl hS, _, _, rfl, rfl, _, rfl, ite2 (fun h1 => ?_) (fun h1 => ?_)⟩
      · have hlt : i < ns.length := by
          have h2 := of_decide_eq_true h1
          rw [List.length_map] at h2
          omega
        exact ⟨.ref a, rfl, _, rfl, a, _, _, _, rfl, rfl, hS, atI_nat (v := V.int ns[i]) (by rw [List.getElem?_map, List.getElem?_eq_getElem hlt]; rfl), _, rfl, rfl⟩
      · exact ⟨_, rfl, rfl⟩
    · rintro σ H2 ⟨x, rfl, rfl⟩
      refine ⟨_, rfl, _, rfl, _, _, rfl, rfl, ⟨by decide, by decide, by decide⟩, _, _, rfl, rfl, ⟨by decide, by decide +kernel⟩, _, _, rfl, rfl, big_pos, _, rfl, _, rfl, _, _, rfl, rfl, ⟨by decide, by decide, by decide⟩, _, _, rfl, rfl, .inr ⟨_, rfl, _, _, rfl, rfl, .inr (bit_in _), ?_⟩⟩
      refine ⟨_, rfl, _, rfl, _, _, rfl, rfl, (show (0 : Int) < 2305843009213693951 by decide), _, _, rfl, rfl, .inr ⟨by decide, by decide⟩, _, rfl, _, _, rfl, rfl, .inl ⟨by decide, by decide⟩, _, rfl, _, _, rfl, rfl, .inr ⟨by omega, by omega⟩, _, _, rfl, rfl, _, _, rfl, rfl, _, _, rfl, rfl, (show (0 : Int) < 2305843009213693921 by decide), ?_⟩
      refine ⟨by show 3 ≤ sizeLine; decide, fun p np => ?_⟩
      refine q _ p (same_new np) np ⟨_, _, 0, upd_same, own_ok _ _, ⟨Int.emod_nonneg _ (by decide), Int.lt_trans (Int.emod_lt_of_pos _ (by decide)) (by decide)⟩, Int.le_refl _, Int.le_refl _⟩
theorem ok_take (T : Txt K mg) {j : Nat} : FnOk P w K mg base CX0 (j + 1) T.fTake T.fdTake ["_law_pot_here", "_law_most"] spTake := by
  refine T.FTake.ok scTake (fun vs H Q E h => ?_) (fun cdv A outer s H vs Q E hr h => ?_)
  · obtain ⟨p, m, u, rfl, _⟩ := h
    rfl
  · obtain ⟨p, m, u, rfl, ⟨a, b, c, hp, ha, hb, hc0, hcm⟩, hm, hu1, hu2, q⟩ := h
    refine ⟨_, pss_cons (ps_if (pt_cmpR op_gt (pe_ix (ix_listK K) (pv 0) pe_int (fun _ _ => rfl)) pe_int (nomark _)) (pss_cons (ps_set (i := 2) scTake.nd rfl (.inl rfl) (pe_op op_mod (pe_ix (ix_listK K) (pv 0) pe_int (fun _ _ => rfl)) (pv 1))) (pss_cons (ps_asg (pe_op op_fdivW (pe_ix (ix_listK K) (pv 0) pe_int (fun _ _ => rfl)) (pv 1)) (pg_sub (pv 0) pe_int set_list)) (pss_one (ps_ret (pv 2))))) pss_nil) (pss_cons (ps_asg (pe_op op_add (pe_ix (ix_listK K) (pv 0) pe_int (fun _ _ => rfl)) pe_int) (pg_sub (pv 0) pe_int set_list)) (pss_cons (ps_set (i := 3) scTake.nd rfl (.inl rfl) (pe_ix (ix_listK K) (pe_lst (pa_cons pe_int (pa_cons pe_int (pa_cons pe_int (pa_cons pe_int (pa_cons pe_int pa_nil)))))) (pe_op op_mod (pe_ix (ix_listK K) (pv 0) pe_int (fun _ _ => rfl)) pe_int) (fun _ _ => rfl))) (pss_cons (ps_set (i := 4) scTake.nd rfl (.inl rfl) (pe_op op_mod (pe_op op_pow (pe_op op_add (pe_op op_add (pe_ix (ix_listK K) (pv 0) pe_int (fun _ _ => rfl)) (pe_op op_mul (pe_op op_mul pe_int (pe_ix (ix_listK K) (pv 0) pe_int (fun _ _ => rfl))) (pe_ix (ix_listK K) (pv 0) pe_int (fun _ _ => rfl)))) pe_int) pe_int) (pv 3))) (pss_one (ps_ret (pe_op op_mod (pe_op op_fdiv (pe_op op_mod (pe_op op_mul (pv 4) (pe_op op_add (pe_op op_mod (pv 4) pe_int) (pe_op op_mul pe_int (pe_ix (ix_listK K) (pv 0) pe_int (fun _ _ => rfl))))) pe_int) pe_int) (pv 1))))))), ?_⟩
    refine ⟨.ref p, rfl, p, _, _, _, rfl, rfl, SqL.of hp, rfl, _, _, rfl, rfl, _, rfl, ite2 (fun h1 => ?_) (fun h1 => ?_)⟩
    · have h0 : 0 < a := of_decide_eq_true h1
      refine ⟨.ref p, rfl, p, _, _, _, rfl, rfl, SqL.of hp, rfl, _, rfl, _, _, rfl, rfl, by omega, ?_⟩
      refine ⟨.ref p, rfl, p, _, _, _, rfl, rfl, SqL.of hp, rfl, _, rfl, _, _, rfl, rfl, wide_div (b := 1000) (by omega) (by omega) (by decide) (by decide), ?_⟩
      refine ⟨.ref p, rfl, p, _, _, 0, rfl, rfl, hp, rfl, ?_⟩
      refine ⟨_, rfl, q _ _ (Int.emod_nonneg _ (by omega)) (Int.emod_lt_of_pos _ (by omega)) ⟨a / u, b, c, upd_same, ?_, hb, hc0, by omega⟩ (But.refl p H).upd⟩
      have h3 : a / u ≤ a := Int.ediv_le_self _ (by omega)
      exact ⟨Int.ediv_nonneg (by omega) (by omega), by omega⟩
    · refine ⟨.ref p, rfl, p, _, _, _, rfl, rfl, SqL.of hp, rfl, _, _, rfl, rfl, .ref p, rfl, p, _, _, 2, rfl, rfl, hp, rfl, ?_⟩
      have hp2 : (upd H p (.lst [V.int a, V.int b, V.int (c + 1)])) p = some (.lst [V.int a, V.int b, V.int (c + 1)]) := upd_same
      obtain ⟨v, ev, v0, v32⟩ := prime_at ((c + 1) % 5) (Int.emod_nonneg _ (by decide)) (Int.emod_lt_of_pos _ (by decide))
      refine ⟨by decide, fun l nl => ?_⟩
      have npl : p ≠ l := ne_of_none hp2 nl
      have hp3 : (upd (upd H p (.lst [V.int a, V.int b, V.int (c + 1)])) l (.lst [V.int 2147483647, V.int 2147483629, V.int 2147483587, V.int 2147483579, V.int 2147483563])) p = some (.lst [V.int a, V.int b, V.int (c + 1)]) := by
        rw [upd_ne npl]
        exact hp2
      refine ⟨.ref p, rfl, p, _, _, _, rfl, rfl, SqL.of hp3, rfl, _, _, rfl, rfl, (show (0 : Int) < 5 by decide), l, _, _, _, rfl, rfl, SqL.of upd_same, ev, ?_⟩
      refine ⟨.ref p, rfl, p, _, _, _, rfl, rfl, SqL.of hp3, rfl, .ref p, rfl, p, _, _, _, rfl, rfl, SqL.of hp3, rfl, _, _, rfl, rfl, .inl ⟨by decide, by decide⟩, .ref p, rfl, p, _, _, _, rfl, rfl, SqL.of hp3, rfl, _, _, rfl, rfl, .inr ⟨by omega, by omega⟩, _, _, rfl, rfl, _, _, rfl, rfl, _, _, rfl, rfl, ⟨by decide, by decide, ?_⟩, _, rfl, _, _, rfl, rfl, v0, ?_⟩
      · have h8 : 0 ≤ 104729 * (c + 1) * (c + 1) := Int.mul_nonneg (by omega) (by omega)
        have h9 : 104729 * (c + 1) * (c + 1) ≤ 104729 * 1000001 * 1000001 := Int.mul_le_mul (by omega) (by omega) (by omega) (by omega)
        have : (b + 104729 * (c + 1) * (c + 1) + 19).natAbs < 2 ^ 64 := by omega
        exact this
      · refine ⟨_, rfl, _, rfl, _, _, rfl, rfl, (show (0 : Int) < 10007 by decide), .ref p, rfl, p, _, _, _, rfl, rfl, SqL.of hp3, rfl, _, _, rfl, rfl, .inl ⟨by decide, by decide⟩, _, _, rfl, rfl, _, _, rfl, rfl, .inl ?_, _, _, rfl, rfl, (show (0 : Int) < 2305843009213693907 by decide), _, _, rfl, rfl, ⟨by decide, by decide⟩, _, rfl, _, _, rfl, rfl, by omega, ?_⟩
        · have h3 := Int.emod_nonneg ((b + 104729 * (c + 1) * (c + 1) + 19) ^ (3 : Int).toNat) (show v ≠ 0 by omega)
          have h4 := Int.emod_lt_of_pos ((b + 104729 * (c + 1) * (c + 1) + 19) ^ (3 : Int).toNat) v0
          exact ⟨by omega, by omega⟩
        · refine q _ _ (Int.emod_nonneg _ (by omega)) (Int.emod_lt_of_pos _ (by omega)) ⟨a, b, c + 1, hp3, ha, hb, by omega, by omega⟩ ?_
          exact (But.refl p H).upd.same (same_new nl)
end
/-! ### the tables of this law -/
def S18 : List (List Nat) := stdRows 3 3 6
def R18 (o : Nat) : List (List Nat) := if o < 6 then S18 ++ [S18.getD o []] else S18
def g18 (rows : List (List Nat)) (c : List Nat) : Nat := ldC [0, 1, 2] 1 rows c
def fstB (rows : List (List Nat)) (A0 B0 : Nat) : Bool :=
  !(combs [0, 1, 2] 1).all (fun c => (combs [0, 1, 2] 1).all fun c' => decide (g18 rows c = g18 rows c')) &&
  (List.range 3).all fun i => (combs [0, 1, 2] 1).all fun c' =>
    !((combs [0, 1, 2] 1).all fun c'' => decide (g18 rows ((combs [0, 1, 2] 1).getD i []) ≤ g18 rows c'')) || (!((List.range i).all fun j => decide (g18 rows ((combs [0, 1, 2] 1).getD i []) < g18 rows ((combs [0, 1, 2] 1).getD j []))) || (!((combs [0, 1, 2] 1).all fun c'' => decide (g18 rows c'' ≤ g18 rows c')) || (decide ((combs [0, 1, 2] 1).getD i [] = [A0]) && decide (c' = [B0]))))
theorem fst_of_B {rows : List (List Nat)} {A0 B0 : Nat} (h : fstB rows A0 B0 = true) : Fst18 rows A0 B0 := by
  unfold fstB at h
  rw [Bool.and_eq_true] at h
  obtain ⟨h1, h2⟩ := h
  refine ⟨fun ⟨F, hF⟩ => ?_, fun i c c' e1 e2 e3 e4 e5 => ?_⟩
  · have : (combs [0, 1, 2] 1).all (fun c => (combs [0, 1, 2] 1).all fun c' => decide (g18 rows c = g18 rows c')) = true := by
      rw [List.all_eq_true]
      intro c hc
      rw [List.all_eq_true]
      intro c' hc'
      exact decide_eq_true ((hF c hc).trans (hF c' hc').symm)
    rw [this] at h1
    cases h1
  · have hl : (combs [0, 1, 2] 1).length = 3 := by decide
    have il : i < 3 := by
      have := (List.getElem?_eq_some_iff.mp e1).1
      omega
    have ec : (combs [0, 1, 2] 1).getD i [] = c := by rw [List.getD_eq_getElem?_getD, e1]; rfl
    have h3 := List.all_eq_true.mp (List.all_eq_true.mp h2 i (List.mem_range.mpr il)) c' e4
    rw [ec] at h3
    rw [show ((combs [0, 1, 2] 1).all fun c'' => decide (g18 rows c ≤ g18 rows c'')) = true from List.all_eq_true.mpr fun c'' hc => decide_eq_true (e2 c'' hc), show ((List.range i).all fun j => decide (g18 rows c < g18 rows ((combs [0, 1, 2] 1).getD j []))) = true from List.all_eq_true.mpr fun j hj => decide_eq_true (e3 j (List.mem_range.mp hj)), show ((combs [0, 1, 2] 1).all fun c'' => decide (g18 rows c'' ≤ g18 rows c')) = true from List.all_eq_true.mpr fun c'' hc => decide_eq_true (e5 c'' hc)] at h3
    have h4 : (decide (c = [A0]) && decide (c' = [B0])) = true := h3
    rw [Bool.and_eq_true] at h4
    exact ⟨of_decide_eq_true h4.1, of_decide_eq_true h4.2⟩
def B18 (o : Nat) : Nat := (S18.getD o []).getD 0 0
def A18 (o : Nat) : Nat := if B18 o = 0 then 1 else 0
theorem fst_R18 : ∀ o < 6, fstB (R18 o) (A18 o) (B18 o) = true := by decide +kernel
theorem len_R18 : ∀ o < 7, (R18 o).length ≤ 7 := by decide +kernel
def goodB (rows : List (List Nat)) : Bool := !rows.isEmpty && rows.all fun r => decide (r.length = 3) && (decide r.Nodup && r.all fun y => decide (y < 3))
theorem good_of_B {rows : List (List Nat)} (h : goodB rows = true) : Good 3 3 rows := by
  unfold goodB at h
  rw [Bool.and_eq_true] at h
  refine ⟨fun e => by rw [e] at h; exact absurd h.1 (by decide), fun r hr => ?_⟩
  have h2 := List.all_eq_true.mp h.2 r hr
  rw [Bool.and_eq_true, Bool.and_eq_true] at h2
  exact ⟨of_decide_eq_true h2.1, of_decide_eq_true h2.2.1, fun y hy => of_decide_eq_true (List.all_eq_true.mp h2.2.2 y hy)⟩
theorem good_R18 : ∀ o < 7, goodB (R18 o) = true := by decide +kernel
theorem odd_R18 : ∀ o < 6, ¬ (cE ((R18 o).map (edgE 0)) ([], 0) = cE ((R18 o).map (edgE 0)) ([], 1) ∧ cE ((R18 o).map (edgE 0)) ([], 1) = cE ((R18 o).map (edgE 0)) ([], 2)) := by decide +kernel
theorem all_R18 : (([], 0) ∈ allE 3 0 ∧ ([], 1) ∈ allE 3 0) ∧ (([], 2) : Edge) ∈ allE 3 0 := by decide +kernel
theorem reach_odd18 {o c : Nat} (ho : o < 6) (hc : 0 < c) : reachE 3 c (R18 o) = 0 := by
  refine reach_at hc (fun j hj => absurd hj (Nat.not_lt_zero _)) ?_
  cases e : levB 3 0 (edgesL 0 (R18 o)) with
  | false => rfl
  | true =>
    exfalso
    obtain ⟨w, hw⟩ := lev_to (good_of_B (good_R18 o (by omega))) (by decide : 0 < 3) e
    obtain ⟨⟨m0, m1⟩, m2⟩ := all_R18
    exact odd_R18 o ho ⟨(hw _ m0).trans (hw _ m1).symm, (hw _ m1).trans (hw _ m2).symm⟩
theorem std18 : Std 3 3 6 := ⟨by decide, by decide, by decide, by decide, by decide +kernel⟩
theorem R18_6 : R18 6 = stdRows 3 3 6 := rfl
theorem reach_even18 {c : Nat} (hc : c ≤ 3) : reachE 3 c (R18 6) = c := reach_all fun j hj => by
  have hj3 : j < 3 := by omega
  have L := std_lev std18 hj3
  refine lev_of (good_of_B (good_R18 6 (by decide))) hj3 (w := wd 3 6 j) ?_ L
  match j, hj3 with
  | 0, _ => decide +kernel
  | 1, _ => decide +kernel
  | 2, _ => decide +kernel
/-! ### values that stay while lists are changed and tables grow -/
def TS (H H' : Hp) : Prop := ∀ b o, H b = some o → (∀ xs, o ≠ .lst xs) → (∀ ps, o ≠ .tbl ps) → H' b = some o
theorem TS.refl (H : Hp) : TS H H := fun _ _ e _ _ => e
theorem TS.trans {H H1 H2 : Hp} (a : TS H H1) (b : TS H1 H2) : TS H H2 := fun x o e n m => b x o (a x o e n m) n m
theorem TS.of {H H' : Hp} (s : Same H H') : TS H H' := fun b o e _ _ => s b o e
theorem TS.ext {H H' : Hp} (s : LamX.ExtN H H') : TS H H' := fun b o e _ m => s b o e m
theorem TS.upd {H : Hp} {l : Addr} {xs : List V} {o : HO} (h : H l = some (.lst xs)) : TS H (L2.upd H l o) := fun b u e n _ => by
  rw [upd_ne (fun z => n xs (by rw [z, h] at e; exact (Option.some.inj e).symm))]
  exact e
theorem SqT.ts {K : PySem.W.Frag} {H H' : Hp} {a : Addr} {xs : List V} (h : SqT K H a xs) (t : TS H H') : SqT K H' a xs := by
  rcases h with (h | ⟨o, h⟩) | h
  · exact .inl (.inl (t _ _ h (fun _ z => by cases z) (fun _ z => by cases z)))
  · exact .inl (.inr ⟨o, t _ _ h (fun _ z => by cases z) (fun _ z => by cases z)⟩)
  · exact .inr h
mutual
def noL : PyData → Bool
  | .list _ => false
  | .dict _ => false
  | .tuple ds => noLA ds
  | _ => true
def noLA : List PyData → Bool
  | [] => true
  | d :: ds => noL d && noLA ds
end
theorem noLA_of : ∀ {ds : List PyData}, (∀ d ∈ ds, noL d = true) → noLA ds = true
  | [], _ => rfl
  | d :: ds, h => by
    show (noL d && noLA ds) = true
    rw [h d List.mem_cons_self, noLA_of fun x hx => h x (List.mem_cons_of_mem _ hx)]
    rfl
theorem noLA_nat : ∀ ms : List Nat, noLA (natD ms) = true
  | [] => rfl
  | m :: ms => by
    show (noL (.int (m : Int)) && noLA (natD ms)) = true
    rw [noLA_nat ms]
    rfl
section
variable {K : PySem.W.Frag} {H H' : Hp}
mutual
theorem dp_ts (t : TS H H') : ∀ {v : V} {d : PyData}, Dp K H v d → noL d = true → Dp K H' v d
  | _, _, .non, _ => .non
  | _, _, .bl b, _ => .bl b
  | _, _, .int i, _ => .int i
  | _, _, .str x, _ => .str x
  | _, _, .tup h a, n => .tup (SqT.ts h t) (dpA_ts t a n)
  | _, _, .lst h a, n => by cases n
theorem dpA_ts (t : TS H H') : ∀ {vs : List V} {ds : List PyData}, DpAll K H vs ds → noLA ds = true → DpAll K H' vs ds
  | _, _, .nil, _ => .nil
  | _, d :: ds, .cons a b, n => by
    have n : (noL d && noLA ds) = true := n
    rw [Bool.and_eq_true] at n
    exact .cons (dp_ts t a n.1) (dpA_ts t b n.2)
end
end
/-- a list of such values -/
structure L18 (K : PySem.W.Frag) (H : Hp) (l : Addr) (xs : List V) (ds : List PyData) : Prop where
  at_ : H l = some (.lst xs)
  dp : DpAll K H xs ds
  nl : noLA ds = true
theorem noLA_app : ∀ {a b : List PyData}, noLA a = true → noLA b = true → noLA (a ++ b) = true
  | [], _, _, h => h
  | d :: a, b, h1, h2 => by
    have h1 : (noL d && noLA a) = true := h1
    rw [Bool.and_eq_true] at h1
    show (noL d && noLA (a ++ b)) = true
    rw [h1.1, noLA_app h1.2 h2]
    rfl
theorem dpAll_app18 {K : PySem.W.Frag} {H : Hp} : ∀ {xs ys : List V} {ds es : List PyData}, DpAll K H xs ds → DpAll K H ys es → DpAll K H (xs ++ ys) (ds ++ es)
  | _, _, _, _, .nil, h => h
  | _, _, _, _, .cons a b, h => .cons a (dpAll_app18 b h)
section
variable {K : PySem.W.Frag} {H H' : Hp} {l l' : Addr} {xs ys : List V} {ds es : List PyData}
theorem L18.go (h : L18 K H l xs ds) (t : TS H H') (e : H' l = some (.lst xs)) : L18 K H' l xs ds := ⟨e, dpA_ts t h.dp h.nl, h.nl⟩
theorem L18.same (h : L18 K H l xs ds) (s : Same H H') : L18 K H' l xs ds := h.go (.of s) (s _ _ h.at_)
theorem L18.ext (h : L18 K H l xs ds) (s : LamX.ExtN H H') : L18 K H' l xs ds := h.go (.ext s) (extN_lst s h.at_)
theorem L18.push {v : V} {d : PyData} (h : L18 K H l xs ds) (hv : Dp K H v d) (n : noL d = true) : L18 K (upd H l (.lst (xs ++ [v]))) l (xs ++ [v]) (ds ++ [d]) :=
  ⟨upd_same, dpA_ts (TS.upd h.at_) (dpAll_app18 h.dp (.cons hv .nil)) (noLA_app h.nl (noLA_of fun x hx => by rw [List.mem_singleton.mp hx]; exact n)), noLA_app h.nl (noLA_of fun x hx => by rw [List.mem_singleton.mp hx]; exact n)⟩
theorem L18.other {o : HO} (h : L18 K H l xs ds) (hl : H l' = some (.lst ys)) (ne : l ≠ l') : L18 K (upd H l' o) l xs ds := h.go (TS.upd hl) (by rw [upd_ne ne]; exact h.at_)
theorem L18.data (h : L18 K H l xs ds) : Dp K H (.ref l) (.list ds) := .lst (SqL.of h.at_) h.dp
end
/-! ### the values' data -/
def prcD (cs : List (List Nat)) (g : List Nat → Nat) : List PyData := cs.map fun c => PyData.tuple [tupD c, .int (g c : Int)]
theorem BegL.dp18 {K : PySem.W.Frag} {H : Hp} {g : List Nat → Nat} : ∀ {cs : List (List Nat)} {us : List V}, BegL K H us (cs.map fun c => (c, g c)) → DpAll K H us (prcD cs g)
  | [], _, h => by
    cases h
    exact .nil
  | c :: cs, _, h => by
    cases h with
    | cons a t =>
      obtain ⟨u, tt, rfl, h1, h2⟩ := a
      exact .cons (.tup h1 (.cons (.tup h2 (dp_set c)) (.cons (.int _) .nil))) (BegL.dp18 t)
theorem noL_prc {g : List Nat → Nat} {cs : List (List Nat)} : noLA (prcD cs g) = true := noLA_of fun d hd => by
  obtain ⟨c, _, rfl⟩ := List.mem_map.mp hd
  show (noLA (natD c) && (true && true)) = true
  rw [noLA_nat]
  rfl
theorem noL_prs {g : Nat → Nat} {ls : List Nat} : noLA (prsD g ls) = true := noLA_of fun d hd => by
  obtain ⟨c, _, rfl⟩ := List.mem_map.mp hd
  rfl
theorem noL_rows {rows : List (List Nat)} : noLA (rows.map tupD) = true := noLA_of fun d hd => by
  obtain ⟨c, _, rfl⟩ := List.mem_map.mp hd
  exact noLA_nat c
theorem noL_lev {es : List Edge} : noL (levD es) = true := by
  show noLA ((sortE es).map fun k => PyData.tuple [k.data, .int ((es.map nkE).count k : Nat)]) = true
  refine noLA_of fun d hd => ?_
  obtain ⟨k, hk, rfl⟩ := List.mem_map.mp hd
  obtain ⟨e, _, rfl⟩ := sortE_mem hk
  rw [nkE_data]
  show ((noLA (natD e.1) && (true && true)) && (true && true)) = true
  rw [noLA_nat]
  rfl
theorem sh_prc18 {g : List Nat → Nat} {f : Nat} : ∀ {cs : List (List Nat)}, (∀ c ∈ cs, c.length ≤ f ∧ (∀ x ∈ c, x < 60) ∧ g c < 1024) → ShAll 2 ((7 * f + 13) * cs.length) (prcD cs g)
  | [], _ => ShAll.nil.mono (by decide) (Nat.zero_le _)
  | c :: cs, h => by
    obtain ⟨h1, h2, h3⟩ := h c List.mem_cons_self
    have a := Sh.tup (sh_nat (b := 6) (by decide) (by decide) (ms := c) fun x hx => by have := h2 x hx; omega)
    have b : Sh 0 10 (.int (g c : Int)) := Sh.int (by decide) (by decide) (by rw [Int.natAbs_natCast]; omega)
    have e := Sh.tup (ShAll.cons a (ShAll.cons (b.mono (dp' := 1) (by decide) (Nat.le_refl _)) (ShAll.nil.mono (dp' := 1) (wt' := 0) (by decide) (by decide))))
    have d := ShAll.cons e (sh_prc18 fun y hy => h y (List.mem_cons_of_mem _ hy))
    refine d.mono (Nat.le_refl _) ?_
    show (6 + 1) * c.length + 1 + (10 + 1 + 0) + 1 + (7 * f + 13) * cs.length ≤ (7 * f + 13) * (cs.length + 1)
    rw [Nat.mul_succ]
    omega
theorem sh_prs18 {g : Nat → Nat} : ∀ {ls : List Nat}, (∀ x ∈ ls, x < 60 ∧ g x < 65536) → ShAll 1 (30 * ls.length) (prsD g ls)
  | [], _ => ShAll.nil.mono (by decide) (Nat.zero_le _)
  | x :: ls, h => by
    obtain ⟨h1, h2⟩ := h x List.mem_cons_self
    have a : Sh 0 6 (.int (x : Int)) := Sh.int (by decide) (by decide) (by rw [Int.natAbs_natCast]; omega)
    have b : Sh 0 16 (.int (g x : Int)) := Sh.int (by decide) (by decide) (by rw [Int.natAbs_natCast]; omega)
    have c := Sh.tup (ShAll.cons a (ShAll.cons b ShAll.nil))
    have d := ShAll.cons c (sh_prs18 fun y hy => h y (List.mem_cons_of_mem _ hy))
    refine d.mono (Nat.le_refl _) ?_
    show 6 + 1 + (16 + 1 + 0) + 1 + 30 * ls.length ≤ 30 * (ls.length + 1)
    omega
/-! ### the calls, each with the one answer -/
theorem vts_set18 {K : PySem.W.Frag} {G : Hp} : ∀ r : List Nat, VTs K G (setV r) (r.map fun (x : Nat) => TD.int (x : Int))
  | [] => .nil
  | x :: r => .cons (.int _) (vts_set18 r)
theorem vts_rows18 {K : PySem.W.Frag} {G : Hp} {ts : List V} {rows : List (List Nat)} (R : RowsL K G ts rows) : VTs K G ts (rows.map fun r => TD.tup (r.map fun (x : Nat) => TD.int (x : Int))) := by
  unfold RowsL at R
  induction R with
  | nil => exact .nil
  | cons a _ ih =>
    obtain ⟨t, rfl, ht⟩ := a
    exact .cons (.tup ht (vts_set18 _)) ih
def LS18 : List (List Nat) := [[0, 1], [0, 2], [1, 2], [0, 1, 2]]
theorem ls_ok : ∀ ls ∈ LS18, ls.Pairwise (· < ·) ∧ (∀ y ∈ ls, y < 3) ∧ 2 ≤ ls.length ∧ ls.length ≤ 3 := by decide
theorem combs_ok18 : ∀ ls ∈ LS18, ∀ m < 3, (combs ls m).length ≤ 3 ∧ ∀ c ∈ combs ls m, c.length ≤ 2 ∧ ∀ x ∈ c, x < 60 := by decide +kernel
/-- the table and the live set, there -/
structure Fx (K : PySem.W.Frag) (H : Hp) (a b : Addr) (ts : List V) (o : Nat) (ls : List Nat) : Prop where
  sq : SqT K H a ts
  row : RowsL K H ts (R18 o)
  ho : o < 7
  liv : SqT K H b (setV ls)
  hls : ls ∈ LS18
section
variable {K : PySem.W.Frag} {H H' : Hp} {a b : Addr} {ts : List V} {o m : Nat} {ls : List Nat}
theorem rows_ts {rows : List (List Nat)} (h : RowsL K H ts rows) (t : TS H H') : RowsL K H' ts rows := PySem.Paired.mono (fun v ms ⟨x, e, z⟩ => ⟨x, e, SqT.ts z t⟩) h
theorem Fx.go (F : Fx K H a b ts o ls) (t : TS H H') : Fx K H' a b ts o ls := ⟨SqT.ts F.sq t, rows_ts F.row t, F.ho, SqT.ts F.liv t, F.hls⟩
theorem Fx.good (F : Fx K H a b ts o ls) : Good 3 3 (R18 o) := good_of_B (good_R18 o F.ho)
theorem Fx.enough (F : Fx K H a b ts o ls) {q : Nat} (hq : q ≤ ls.length) : ∀ r ∈ R18 o, q ≤ (inL ls r).length := by
  obtain ⟨h1, h2, h3, h4⟩ := ls_ok ls F.hls
  exact Ef.enough F.good.2 h1 h2 (by omega)
def tD18 (o : Nat) : TD := .tup ((R18 o).map fun r => TD.tup (r.map fun (x : Nat) => TD.int (x : Int)))
theorem isT18 (F : Fx K H a b ts o ls) {Q : VK} {E : XK} (q : ∀ H', Same H H' → Q (.bl (tabT 3 3 (tD18 o))) H') : spIsTab K [.int 3, .int 3, .ref a] H Q E :=
  ⟨3, 3, .ref a, tD18 o, rfl, .tup F.sq (vts_rows18 F.row), by decide, q⟩
theorem std32 : Std 3 2 6 := ⟨by decide, by decide, by decide, by decide, by decide +kernel⟩
def d2_18 : PyData := .tuple ((stdRows 3 2 6).map tupD)
theorem stT18 {CP CM : Addr} {Q : VK} {E : XK} (q : ∀ H' u, Same H H' → Dp K H' (.ref u) d2_18 → Q (.ref u) H') : spStdT K CP CM [.int 3, .int 2, .int 6] H Q E := by
  refine ⟨3, 2, .int 6, some 6, rfl, by decide, by decide, by decide, .inl ⟨6, rfl, rfl⟩, fun z => ?_, fun c e st => ⟨fun h => ?_, fun _ H' u s tb => ?_⟩⟩
  · have : possB (leastL 3 2) (some ((6 : Nat) : Int)) = true := std_poss std32
    rw [show (some (6 : Int)) = some ((6 : Nat) : Int) from rfl, this] at z
    cases z
  · have := Option.some.inj e
    omega
  · have e := Option.some.inj e
    obtain rfl : c = 6 := by omega
    obtain ⟨ts2, h1, h2⟩ := tb
    exact q H' u s (.tup h1 (RowsL.dp h2))
def d3_18 (o m : Nat) (ls : List Nat) : PyData := .tuple (natD (holdL ls ((R18 o).getD 0 []) (min m ls.length)))
theorem hoT18 (F : Fx K H a b ts o ls) {CS u0 : Addr} {Q : VK} {E : XK} (hu : ts.head? = some (.ref u0)) (q : ∀ H' t, Same H H' → Dp K H' (.ref t) (d3_18 o m ls) → Q (.ref t) H') : spHold K CS [.ref u0, .ref b, .int m] H Q E := by
  obtain ⟨h1, h2, h3, h4⟩ := ls_ok ls F.hls
  obtain ⟨r0, hr0⟩ : ∃ r0, (R18 o)[0]? = some r0 := ⟨_, List.getElem?_eq_getElem (List.length_pos_iff.mpr F.good.1)⟩
  have er : (R18 o).getD 0 [] = r0 := by rw [List.getD_eq_getElem?_getD, hr0]; rfl
  have hm := List.mem_of_getElem? hr0
  have hl := (F.good.2 r0 hm).1
  have hU : SqT K H u0 (setV r0) := by
    rw [List.head?_eq_getElem?] at hu
    obtain ⟨r, e1, t, e2, ht⟩ := F.row.at hu
    rw [hr0] at e1
    obtain rfl := Option.some.inj e1
    injection e2 with e2
    rw [e2]
    exact ht
  have en := F.enough (q := min m ls.length) (Nat.min_le_right _ _) r0 hm
  refine ⟨u0, b, r0, ls, m, rfl, hU, F.liv, by omega, by omega, fun _ H' t s _ ht => ?_, fun z => by omega⟩
  refine q H' t s ?_
  unfold d3_18
  rw [er]
  exact .tup (SqT.of ht) (dp_set _)
def d4_18 (o m : Nat) (ls : List Nat) : PyData := .tuple (prcD (combs ls m) (ldC ls m (R18 o)))
theorem row60 (F : Fx K H a b ts o ls) : (R18 o).length ≤ 7 ∧ ∀ r ∈ R18 o, r.length ≤ 60 := ⟨len_R18 o F.ho, fun r hr => by rw [(F.good.2 r hr).1]; decide⟩
theorem loT18 (F : Fx K H a b ts o ls) {CS : Addr} {Q : VK} {E : XK} (hm : m ≤ 2) (q : ∀ H' t, Same H H' → Dp K H' (.ref t) (d4_18 o m ls) → Q (.ref t) H') : spLoads K CS [.int 3, .ref a, .ref b, .int m] H Q E := by
  obtain ⟨h1, h2, h3, h4⟩ := ls_ok ls F.hls
  obtain ⟨l1, l2⟩ := row60 F
  have en := F.enough (q := m) (by omega)
  have hc := (combs_ok18 ls F.hls m (by omega)).1
  refine ⟨3, a, b, ts, R18 o, ls, m, rfl, F.sq, F.row, F.liv, by omega, l2, by omega, by omega, by omega, fun _ H' t s _ ⟨us, ht, hb⟩ => q H' t s (.tup (SqT.of ht) hb.dp18), fun i r t e1 _ _ e4 => absurd (en r (List.mem_of_getElem? e1)) e4⟩
def d5_18 (o m : Nat) (ls : List Nat) : PyData := .tuple (prsD (ldF ls (min m ls.length) (R18 o)) ls)
theorem slT18 (F : Fx K H a b ts o ls) {CS : Addr} {Q : VK} {E : XK} (q : ∀ H' t, Same H H' → Dp K H' (.ref t) (d5_18 o m ls) → Q (.ref t) H') : spSLoads K CS [.int 3, .ref a, .ref b, .int m] H Q E := by
  obtain ⟨h1, h2, h3, h4⟩ := ls_ok ls F.hls
  obtain ⟨l1, l2⟩ := row60 F
  have en := F.enough (q := min m ls.length) (Nat.min_le_right _ _)
  refine ⟨3, a, b, ts, R18 o, ls, m, rfl, F.sq, F.row, F.liv, by omega, l2, by omega, asc_nodup h1, fun _ H' t s _ ⟨us, ob, _, ht, hb⟩ => q H' t s (.tup (.inl (.inr ⟨ob, ht⟩)) hb.dp), fun i r t e1 _ _ e4 => absurd (en r (List.mem_of_getElem? e1)) e4⟩
end
/-! ### tables by keywords -/
def spTr18 (K : PySem.W.Frag) : Sp := fun vs H Q _ => ∃ (a b : Addr) (ts : List V) (o m : Nat) (ls : List Nat), vs = [.ref a, .ref b, .int m] ∧ Fx K H a b ts o ls ∧ 1 ≤ m ∧ m ≤ 2 ∧ ∀ H', Same H H' → Q (.bl true) H'
def tr18D (o m : Nat) (ls : List Nat) : List PyData := [.bool (tabT 3 3 (tD18 o)), d2_18, d3_18 o m ls, d4_18 o m ls, d5_18 o m ls]
theorem cnt_le18 {ls c : List Nat} {m : Nat} (rows : List (List Nat)) : ldC ls m rows c ≤ rows.length := by
  unfold ldC
  have := List.count_le_length (a := c) (l := rows.map (keyL ls m))
  rwa [List.length_map] at this
theorem le_sum18 {f : Nat → Nat} : ∀ {l : List Nat} {x : Nat}, x ∈ l → f x ≤ (l.map f).sum
  | y :: l, x, h => by
    rw [List.map_cons, List.sum_cons]
    rcases List.mem_cons.mp h with rfl | h
    · omega
    · have := le_sum18 (f := f) h
      omega
theorem std32_rows : ∀ r ∈ stdRows 3 2 6, r.length ≤ 2 ∧ ∀ x ∈ r, x < 60 := by decide +kernel
theorem sh_tr18 {o m : Nat} {ls : List Nat} (ho : o < 7) (hls : ls ∈ LS18) (hm : m ≤ 2) : Sh 60 80000 (.list (tr18D o m ls)) := by
  obtain ⟨h1, h2, h3, h4⟩ := ls_ok ls hls
  obtain ⟨c1, c2⟩ := combs_ok18 ls hls m (by omega)
  have G := good_of_B (good_R18 o ho)
  have l7 := len_R18 o ho
  have a1 : Sh 3 1000 (.bool (tabT 3 3 (tD18 o))) := (Sh.bool _).mono (by decide) (by decide)
  have a2 : Sh 3 1000 d2_18 := (Sh.tup (sh_rows (d := 2) (rows := stdRows 3 2 6) std32_rows)).mono (by decide) (by decide +kernel)
  have a3 : Sh 3 1000 (d3_18 o m ls) := (sh_list (by rw [hold_len]; omega) fun x hx => by have := h2 x (hold_mem hx).2; omega).mono (by decide) (by decide)
  have a4 : Sh 3 1000 (d4_18 o m ls) := by
    have := Sh.tup (sh_prc18 (g := ldC ls m (R18 o)) (f := 2) (cs := combs ls m) fun c hc => ⟨(c2 c hc).1, (c2 c hc).2, by have := cnt_le18 (ls := ls) (c := c) (m := m) (R18 o); omega⟩)
    exact this.mono (by decide) (by omega)
  have a5 : Sh 3 1000 (d5_18 o m ls) := by
    have en : ∀ r ∈ R18 o, min m ls.length ≤ (inL ls r).length := Ef.enough G.2 h1 h2 (by omega)
    have hs := ldF_sum (ls := ls) (w := min m ls.length) (rows := R18 o) (asc_nodup h1) en
    have := Sh.tup (sh_prs18 (g := ldF ls (min m ls.length) (R18 o)) (ls := ls) fun x hx => ⟨by have := h2 x hx; omega, by
      have h5 := le_sum18 (f := ldF ls (min m ls.length) (R18 o)) hx
      rw [hs] at h5
      have h6 : (R18 o).length * min m ls.length ≤ 7 * 2 := Nat.mul_le_mul l7 (by omega)
      omega⟩)
    exact this.mono (by decide) (by omega)
  exact (Sh.lst (ShAll.cons a1 (ShAll.cons a2 (ShAll.cons a3 (ShAll.cons a4 (ShAll.cons a5 (ShAll.nil.mono (Nat.zero_le _) (Nat.le_refl _)))))))).mono (by decide) (by decide)
theorem noL_d2 : noL d2_18 = true := noL_rows
theorem noL_d3 {o m : Nat} {ls : List Nat} : noL (d3_18 o m ls) = true := noLA_nat _
theorem noL_d4 {o m : Nat} {ls : List Nat} : noL (d4_18 o m ls) = true := noL_prc
theorem noL_d5 {o m : Nat} {ls : List Nat} : noL (d5_18 o m ls) = true := noL_prs
section
variable {P : Program} {w : World} {K : PySem.W.Frag} {mg : Str → Option Value} {base : Heap}
theorem ok_tr18 (T : Txt K mg) {j : Nat} : FnG P w K mg base CX0 (j + 9) T.fTr18 T.fdTr18 ["_law_rows", "_law_some", "_law_many"] (spTr18 K) := by
  refine Fun_ok0 T.FTr18 scTr18 (fun vs H Q E h => ?_) (fun cdv A outer s H vs Q E gd hr h => ?_)
  · obtain ⟨a, b, ts, o, m, ls, rfl, _⟩ := h
    rfl
  · obtain ⟨a, b, ts, o, m, ls, rfl, hF, m1, m2, q⟩ := h
    have hu66 : (A.deeper (envOfC "_law_tables_right" (defScope sTr18) s.heap.objs.size T.fTr18 cdv)).units + 66 < cLine := by
      have := hr.un
      omega
    refine ⟨_, pss_cons (ps_set (i := 3) scTr18.nd rfl (.inl rfl) (pe_lst (pa_cons (pe_call (ok_istab T) hr (by rfl) T.gIsTab T.FIsTab.kp T.bIsTab .nil pass0 (pa_cons pe_int (pa_cons pe_int (pa_cons (pv 0) pa_nil)))) (pa_cons (pe_call (ok_stdt T) hr (by rfl) T.gStdT T.FStdT.kp T.bStdT .nil passF (pa_cons pe_int (pa_cons pe_int (pa_cons pe_int pa_nil)))) (pa_cons (pe_call (ok_hold T) hr (by rfl) T.gHold T.FHold.kp T.bHold .nil passF (pa_cons (pe_ix (ix_tupK K) (pv 0) pe_int (fun _ _ => rfl)) (pa_cons (pv 1) (pa_cons (pv 2) pa_nil)))) (pa_cons (pe_call (ok_loads T) hr (by rfl) T.gLoads T.FLoads.kp T.bLoads .nil passF (pa_cons pe_int (pa_cons (pv 0) (pa_cons (pv 1) (pa_cons (pv 2) pa_nil))))) pa_nil)))))) (pss_cons (ps_set (i := 4) scTr18.nd rfl (.inl rfl) (pe_lst (pa_cons (pe_kw (ok_istab T) hr (by rfl) T.gIsTab T.FIsTab.kp T.kIsTab_thing_depth_n pass0 (pk_cons (pv 0) (pk_cons pe_int (pk_cons pe_int pk_nil)))) (pa_cons (pe_kw (ok_stdt T) hr (by rfl) T.gStdT T.FStdT.kp T.kStdT_count_depth_n passF (pk_cons pe_int (pk_cons pe_int (pk_cons pe_int pk_nil)))) pa_nil)))) (pss_cons (ps_expr (pe_bm PySem.F.plainAttrs_list PySem.F.slot_list_append PySem.F.type_list_append mt_append (pv 4) (pa_cons (pe_kw (ok_hold T) hr (by rfl) T.gHold T.FHold.kp T.kHold_factor_live_order passF (pk_cons (pv 2) (pk_cons (pv 1) (pk_cons (pe_ix (ix_tupK K) (pv 0) pe_int (fun _ _ => rfl)) pk_nil)))) pa_nil))) (pss_cons (ps_expr (pe_bm PySem.F.plainAttrs_list PySem.F.slot_list_append PySem.F.type_list_append mt_append (pv 4) (pa_cons (pe_kw (ok_loads T) hr (by rfl) T.gLoads T.FLoads.kp T.kLoads_factor_live_table_n passF (pk_cons (pv 2) (pk_cons (pv 1) (pk_cons (pv 0) (pk_cons pe_int pk_nil))))) pa_nil))) (pss_cons (ps_expr (pe_bm PySem.F.plainAttrs_list PySem.F.slot_list_append PySem.F.type_list_append mt_append (pv 3) (pa_cons (pe_call (ok_sloads T) hr (by rfl) T.gSLoads T.FSLoads.kp T.bSLoads .nil passF (pa_cons pe_int (pa_cons (pv 0) (pa_cons (pv 1) (pa_cons (pv 2) pa_nil))))) pa_nil))) (pss_cons (ps_expr (pe_bm PySem.F.plainAttrs_list PySem.F.slot_list_append PySem.F.type_list_append mt_append (pv 4) (pa_cons (pe_kw (ok_sloads T) hr (by rfl) T.gSLoads T.FSLoads.kp T.kSLoads_factor_live_table_n passF (pk_cons (pv 2) (pk_cons (pv 1) (pk_cons (pv 0) (pk_cons pe_int pk_nil))))) pa_nil))) (pss_one (ps_ret (pe_cmpR op_eq (pe_callB (call_reprK K gd hu66) (by rfl) T.n_repr (by decide +kernel) (pa_cons (pv 3) pa_nil)) (pe_callB (call_reprK K gd hu66) (by rfl) T.n_repr (by decide +kernel) (pa_cons (pv 4) pa_nil)) (nomark _))))))))), ?_⟩
    have hu0 : ∃ u0, ts.head? = some (V.ref u0) := by
      have R := hF.row
      cases e : R18 o with
      | nil => exact absurd e hF.good.1
      | cons r rs =>
        rw [e] at R
        cases R with
        | cons x y =>
          obtain ⟨t, rfl, _⟩ := x
          exact ⟨t, rfl⟩
    obtain ⟨u0, hu0⟩ := hu0
    have at0 : atI ts 0 = some (V.ref u0) := atI_nat (j := 0) (by rw [← List.head?_eq_getElem?]; exact hu0)
    refine ⟨.ref a, rfl, ?_⟩
    try dsimp only [tNil, tCons, tCall, tC, tCallK]
    show spIsTab K [.int 3, .int 3, .ref a] _ _ _
    refine isT18 hF fun H1 s1 => ?_
    have F1 := hF.go (.of s1)
    try dsimp only [tNil, tCons, tCall, tC, tCallK]
    show spStdT K _ _ [.int 3, .int 2, .int 6] _ _ _
    refine stT18 fun H2 u2 s2 D2 => ?_
    have F2 := F1.go (.of s2)
    refine ⟨.ref a, rfl, a, ts, _, _, rfl, rfl, F2.sq, at0, .ref b, rfl, _, rfl, ?_⟩
    try dsimp only [tNil, tCons, tCall, tC, tCallK]
    show spHold K _ [.ref u0, .ref b, .int m] _ _ _
    refine hoT18 F2 hu0 fun H3 u3 s3 D3 => ?_
    have F3 := F2.go (.of s3)
    refine ⟨.ref a, rfl, .ref b, rfl, _, rfl, ?_⟩
    try dsimp only [tNil, tCons, tCall, tC, tCallK]
    show spLoads K _ [.int 3, .ref a, .ref b, .int m] _ _ _
    refine loT18 F3 m2 fun H4 u4 s4 D4 => ?_
    have F4 := F3.go (.of s4)
    refine ⟨by show 4 ≤ sizeLine; decide, fun l1 nl1 => ?_⟩
    have n1 : H l1 = none := (((s1.trans s2).trans s3).trans s4).free nl1
    have s5 := same_new (o := .lst [V.bl (tabT 3 3 (tD18 o)), .ref u2, .ref u3, .ref u4]) nl1
    have L1 : L18 K (upd H4 l1 (.lst [V.bl (tabT 3 3 (tD18 o)), .ref u2, .ref u3, .ref u4])) l1 [V.bl (tabT 3 3 (tD18 o)), .ref u2, .ref u3, .ref u4] [.bool (tabT 3 3 (tD18 o)), d2_18, d3_18 o m ls, d4_18 o m ls] :=
      ⟨upd_same, .cons (.bl _) (.cons (dp_ts (.of ((s3.trans s4).trans s5)) D2 noL_d2) (.cons (dp_ts (.of (s4.trans s5)) D3 noL_d3) (.cons (dp_ts (.of s5) D4 noL_d4) .nil))), by
        show (true && (noL d2_18 && (noL (d3_18 o m ls) && (noL (d4_18 o m ls) && true)))) = true
        rw [noL_d2, noL_d3, noL_d4]
        rfl⟩
    have F5 := F4.go (.of s5)
    have s05 := (((s1.trans s2).trans s3).trans s4).trans s5
    generalize upd H4 l1 (.lst [V.bl (tabT 3 3 (tD18 o)), .ref u2, .ref u3, .ref u4]) = H5 at s05 L1 F5 ⊢
    dsimp only [gName]
    refine ⟨.ref a, rfl, ?_⟩
    try dsimp only [tNil, tCons, tCall, tC, tCallK]
    show spIsTab K [.int 3, .int 3, .ref a] _ _ _
    refine isT18 F5 fun H6 s6 => ?_
    have F6 := F5.go (.of s6)
    try dsimp only [tNil, tCons, tCall, tC, tCallK]
    show spStdT K _ _ [.int 3, .int 2, .int 6] _ _ _
    refine stT18 fun H7 u7 s7 D7 => ?_
    have F7 := F6.go (.of s7)
    refine ⟨by show 2 ≤ sizeLine; decide, fun l2 nl2 => ?_⟩
    have s8 := same_new (o := .lst [V.bl (tabT 3 3 (tD18 o)), .ref u7]) nl2
    have L2 : L18 K (upd H7 l2 (.lst [V.bl (tabT 3 3 (tD18 o)), .ref u7])) l2 [V.bl (tabT 3 3 (tD18 o)), .ref u7] [.bool (tabT 3 3 (tD18 o)), d2_18] :=
      ⟨upd_same, .cons (.bl _) (.cons (dp_ts (.of s8) D7 noL_d2) .nil), by
        show (true && (noL d2_18 && true)) = true
        rw [noL_d2]
        rfl⟩
    have F8 := F7.go (.of s8)
    have s58 := (s6.trans s7).trans s8
    have L18a := L1.same s58
    have ne12 : l1 ≠ l2 := fun e => by
      have := (L1.same (s6.trans s7)).at_
      rw [e, nl2] at this
      cases this
    have s08 := s05.trans s58
    have n2 : H l2 = none := (s05.trans (s6.trans s7)).free nl2
    generalize upd H7 l2 (.lst [V.bl (tabT 3 3 (tD18 o)), .ref u7]) = H8 at s08 L18a L2 F8 ⊢
    clear L1 s58 s05 F1 F2 F3 F4 F5 F6 F7
    dsimp only [gName]
    refine ⟨.ref l2, rfl, .inl ⟨rfl, _, SqL.of L2.at_⟩, _, rfl, .ref b, rfl, .ref a, rfl, a, ts, _, _, rfl, rfl, F8.sq, at0, ?_⟩
    try dsimp only [tNil, tCons, tCall, tC, tCallK]
    show spHold K _ [.ref u0, .ref b, .int m] _ _ _
    refine hoT18 F8 hu0 fun H9 u9 s9 D9 => ?_
    refine ⟨l2, _, _, rfl, rfl, (L2.same s9).at_, by show 2 < sizeLine; decide, ?_⟩
    have L2b := (L2.same s9).push D9 noL_d3
    have L1b := (L18a.same s9).other (o := .lst ([V.bl (tabT 3 3 (tD18 o)), V.ref u7] ++ [V.ref u9])) (L2.same s9).at_ ne12
    have F9 := (F8.go (.of s9)).go (TS.upd (o := .lst ([V.bl (tabT 3 3 (tD18 o)), V.ref u7] ++ [V.ref u9])) (L2.same s9).at_)
    have s09 := keep_upd (o := .lst ([V.bl (tabT 3 3 (tD18 o)), V.ref u7] ++ [V.ref u9])) (s08.trans s9) n2
    generalize upd H9 l2 (.lst ([V.bl (tabT 3 3 (tD18 o)), V.ref u7] ++ [V.ref u9])) = H10 at L2b L1b F9 s09 ⊢
    clear L2 L18a F8 s08 D9 s9
    refine ⟨.ref l2, rfl, .inl ⟨rfl, _, SqL.of L2b.at_⟩, _, rfl, .ref b, rfl, .ref a, rfl, ?_⟩
    try dsimp only [tNil, tCons, tCall, tC, tCallK]
    show spLoads K _ [.int 3, .ref a, .ref b, .int m] _ _ _
    refine loT18 F9 m2 fun H11 u11 s11 D11 => ?_
    refine ⟨l2, _, _, rfl, rfl, (L2b.same s11).at_, by show 3 < sizeLine; decide, ?_⟩
    have L2c := (L2b.same s11).push D11 noL_d4
    have L1c := (L1b.same s11).other (o := .lst (([V.bl (tabT 3 3 (tD18 o)), V.ref u7] ++ [V.ref u9]) ++ [V.ref u11])) (L2b.same s11).at_ ne12
    have F11 := (F9.go (.of s11)).go (TS.upd (o := .lst (([V.bl (tabT 3 3 (tD18 o)), V.ref u7] ++ [V.ref u9]) ++ [V.ref u11])) (L2b.same s11).at_)
    have s011 := keep_upd (o := .lst (([V.bl (tabT 3 3 (tD18 o)), V.ref u7] ++ [V.ref u9]) ++ [V.ref u11])) (s09.trans s11) n2
    generalize upd H11 l2 (.lst (([V.bl (tabT 3 3 (tD18 o)), V.ref u7] ++ [V.ref u9]) ++ [V.ref u11])) = H12 at L2c L1c F11 s011 ⊢
    clear L2b L1b F9 s09 D11 s11
    refine ⟨.ref l1, rfl, .inl ⟨rfl, _, SqL.of L1c.at_⟩, .ref a, rfl, .ref b, rfl, _, rfl, ?_⟩
    try dsimp only [tNil, tCons, tCall, tC, tCallK]
    show spSLoads K _ [.int 3, .ref a, .ref b, .int m] _ _ _
    refine slT18 F11 fun H13 u13 s13 D13 => ?_
    refine ⟨l1, _, _, rfl, rfl, (L1c.same s13).at_, by show 4 < sizeLine; decide, ?_⟩
    have L1d := (L1c.same s13).push D13 noL_d5
    have L2d := (L2c.same s13).other (o := .lst ([V.bl (tabT 3 3 (tD18 o)), .ref u2, .ref u3, .ref u4] ++ [V.ref u13])) (L1c.same s13).at_ ne12.symm
    have F13 := (F11.go (.of s13)).go (TS.upd (o := .lst ([V.bl (tabT 3 3 (tD18 o)), .ref u2, .ref u3, .ref u4] ++ [V.ref u13])) (L1c.same s13).at_)
    have s013 := keep_upd (o := .lst ([V.bl (tabT 3 3 (tD18 o)), .ref u2, .ref u3, .ref u4] ++ [V.ref u13])) (s011.trans s13) n1
    generalize upd H13 l1 (.lst ([V.bl (tabT 3 3 (tD18 o)), .ref u2, .ref u3, .ref u4] ++ [V.ref u13])) = H14 at L2d L1d F13 s013 ⊢
    clear L2c L1c F11 s011 D13 s13
    refine ⟨.ref l2, rfl, .inl ⟨rfl, _, SqL.of L2d.at_⟩, _, rfl, .ref b, rfl, .ref a, rfl, ?_⟩
    try dsimp only [tNil, tCons, tCall, tC, tCallK]
    show spSLoads K _ [.int 3, .ref a, .ref b, .int m] _ _ _
    refine slT18 F13 fun H15 u15 s15 D15 => ?_
    refine ⟨l2, _, _, rfl, rfl, (L2d.same s15).at_, by show 4 < sizeLine; decide, ?_⟩
    have L2e := (L2d.same s15).push D15 noL_d5
    have L1e := (L1d.same s15).other (o := .lst ((([V.bl (tabT 3 3 (tD18 o)), V.ref u7] ++ [V.ref u9]) ++ [V.ref u11]) ++ [V.ref u15])) (L2d.same s15).at_ ne12
    have s015 := keep_upd (o := .lst ((([V.bl (tabT 3 3 (tD18 o)), V.ref u7] ++ [V.ref u9]) ++ [V.ref u11]) ++ [V.ref u15])) (s013.trans s15) n2
    generalize upd H15 l2 (.lst ((([V.bl (tabT 3 3 (tD18 o)), V.ref u7] ++ [V.ref u9]) ++ [V.ref u11]) ++ [V.ref u15])) = H16 at L2e L1e s015 ⊢
    clear L2d L1d F13 s013 D15 s15
    have shL := sh_tr18 hF.ho hF.hls m2
    refine ⟨.ref l1, rfl, .ref l1, .list (tr18D o m ls), rfl, L1e.data, shL, .ref l2, rfl, .ref l2, .list (tr18D o m ls), rfl, L2e.data, shL, rfl, ?_⟩
    rw [decide_eq_true rfl]
    exact q _ s015
end
/-! ### what is judged, each with the one answer -/
def pD18 (o : Nat) : PyData := if o < 6 then .tuple [.tuple (natD [0, 1, 2]), .tuple (natD [A18 o]), .tuple (natD [B18 o])] else .none
def PapV (K : PySem.W.Frag) (H : Hp) (v : V) (o : Nat) : Prop := (o < 6 ∧ ∃ t l x y, v = .ref t ∧ H t = some (.tup [.ref l, .ref x, .ref y]) ∧ SqT K H l (setV [0, 1, 2]) ∧ SqT K H x (setV [A18 o]) ∧ SqT K H y (setV [B18 o])) ∨ (o = 6 ∧ v = .non)
theorem PapV.ts {K : PySem.W.Frag} {H H' : Hp} {v : V} {o : Nat} (h : PapV K H v o) (t : TS H H') : PapV K H' v o := by
  rcases h with ⟨ho, p, l, x, y, e, h1, h2, h3, h4⟩ | h
  · exact .inl ⟨ho, p, l, x, y, e, t _ _ h1 (fun _ z => by cases z) (fun _ z => by cases z), SqT.ts h2 t, SqT.ts h3 t, SqT.ts h4 t⟩
  · exact .inr h
theorem PapV.dp {K : PySem.W.Frag} {H : Hp} {v : V} {o : Nat} (h : PapV K H v o) : Dp K H v (pD18 o) := by
  unfold pD18
  rcases h with ⟨ho, p, l, x, y, rfl, h1, h2, h3, h4⟩ | ⟨rfl, rfl⟩
  · rw [if_pos ho]
    exact .tup (SqT.of h1) (.cons (.tup h2 (dp_set _)) (.cons (.tup h3 (dp_set _)) (.cons (.tup h4 (dp_set _)) .nil)))
  · exact .non
theorem noL_p18 : ∀ o < 7, noL (pD18 o) = true := by
  intro o ho
  unfold pD18
  split
  · rfl
  · rfl
theorem less18 : ∀ o < 6, heldN [0, 1, 2] 1 (R18 o) [A18 o] < heldN [0, 1, 2] 1 (R18 o) [B18 o] ∧ [A18 o] ∈ combs [0, 1, 2] 1 ∧ [B18 o] ∈ combs [0, 1, 2] 1 := by decide +kernel
theorem ab18 : ∀ o < 6, A18 o < 3 ∧ B18 o < 3 := by decide +kernel
/-- the table, there -/
structure Fy (K : PySem.W.Frag) (H : Hp) (a : Addr) (ts : List V) (o : Nat) : Prop where
  sq : SqT K H a ts
  row : RowsL K H ts (R18 o)
  ho : o < 7
section
variable {K : PySem.W.Frag} {H H' : Hp} {a : Addr} {ts : List V} {o f k sz : Nat}
theorem Fy.go (F : Fy K H a ts o) (t : TS H H') : Fy K H' a ts o := ⟨SqT.ts F.sq t, rows_ts F.row t, F.ho⟩
theorem Fy.good (F : Fy K H a ts o) : Good 3 3 (R18 o) := good_of_B (good_R18 o F.ho)
theorem Fy.len (F : Fy K H a ts o) : (R18 o).length ≤ 7 ∧ ∀ r ∈ R18 o, r.length ≤ 60 := ⟨len_R18 o F.ho, fun r hr => by rw [(F.good.2 r hr).1]; decide⟩
theorem unT18 (F : Fy K H a ts o) {tabs : List NdefX.NTab} (hT : NdefX.TabsN tabs H) {Q : VK} {E : XK} (hf : 1 ≤ f) (hk : 1 ≤ k) (hk2 : k ≤ 2) (q : ∀ H' v, LamX.ExtN H H' → NdefX.TabsN tabs H' → (∀ b, H' b = none → H b = none) → PapV K H' v o → Q v H') : spUnev18 K tabs [.int 3, .ref a, .int f, .int k] H Q E := by
  have ho := F.ho
  have l7 := F.len.1
  refine ⟨f, k, a, ts, R18 o, rfl, F.sq, F.row, by omega, F.good, hf, hk, by omega, hT, ?_⟩
  by_cases c : o < 6
  · exact .inr ⟨A18 o, B18 o, reach_odd18 c (by omega), fst_of_B (fst_R18 o c), fun H' t l x y e n T _ ht hl hx hy => q H' _ e T n (.inl ⟨c, t, l, x, y, rfl, ht, hl, hx, hy⟩)⟩
  · obtain rfl : o = 6 := by omega
    exact .inl ⟨reach_even18 (by omega), fun H' s => q H' _ (extN_same s) (hT.ext s) (fun b z => s.free z) (.inr ⟨rfl, rfl⟩)⟩
def e18 (o f k : Nat) : Bool := decide (reachE 3 (min 3 (f + k)) (R18 o) = min 3 (f + k))
theorem ieT18 (F : Fy K H a ts o) {CS : Addr} {Q : VK} {E : XK} (q : ∀ H', Same H H' → Q (.bl (e18 o f k)) H') : spIsEven K CS [.int 3, .ref a, .int f, .int k] H Q E := by
  have l7 := F.len.1
  exact ⟨3, f, k, 3, a, ts, R18 o, rfl, F.sq, F.row, by omega, F.good, by decide, by decide, fun _ H' s => q H' s, fun _ _ h => absurd h (by omega)⟩
theorem shT18 (F : Fy K H a ts o) {v : V} {Q : VK} {E : XK} (hf : 1 ≤ f) (hk : 1 ≤ k) (hv : PapV K H v o) (q : ∀ H', Same H H' → Q (.bl (decide (o < 6))) H') : spShowsU K [.int 3, .ref a, .int f, .int k, v] H Q E ∨ spShowsN K [.int 3, .ref a, .int f, .int k, v] H Q E := by
  have l7 := F.len.1
  rcases hv with ⟨ho, t, l, x, y, rfl, h1, h2, h3, h4⟩ | ⟨rfl, rfl⟩
  · obtain ⟨w1, w2, w3⟩ := less18 o ho
    rw [decide_eq_true ho] at q
    exact .inl ⟨3, f, k, 3, a, t, l, x, y, ts, R18 o, [0, 1, 2], [A18 o], [B18 o], 0, 1, rfl, F.sq, F.row, by omega, F.good, by decide, by omega, h1, h2, h3, h4, ⟨by decide, by decide, by decide, w2, w3, w1⟩, by omega, by decide, hk, by decide, q⟩
  · exact .inr ⟨3, f, k, 3, a, ts, R18 6, rfl, F.sq, F.row, F.good, by omega, q⟩
theorem lnT18 (F : Fy K H a ts o) {Q : VK} {E : XK} (q : ∀ H' t, Same H H' → Dp K H' (.ref t) (levD (edgesL sz (R18 o))) → Q (.ref t) H') : spLevNums K [.int 3, .ref a, .int sz] H Q E := by
  obtain ⟨l7, l60⟩ := F.len
  exact ⟨3, a, ts, R18 o, sz, rfl, F.sq, F.row, by omega, l60, fun H' t s _ L => q H' t s L.dp⟩
theorem ilT18 (F : Fy K H a ts o) {Q : VK} {E : XK} (hs : sz < 3) (q : ∀ H', Same H H' → Q (.bl (levB 3 sz (edgesL sz (R18 o)))) H') : spIsLev K [.int 3, .ref a, .int sz] H Q E := by
  have l7 := F.len.1
  exact ⟨3, a, ts, R18 o, sz, 3, rfl, F.sq, F.row, by omega, F.good, by decide, by decide, hs, q⟩
theorem reT18 (F : Fy K H a ts o) {Q : VK} {E : XK} (q : ∀ H', Same H H' → Q (.int (reachE 3 3 (R18 o) : Nat)) H') : spReachE K [.int 3, .ref a] H Q E := by
  have l7 := F.len.1
  exact ⟨3, a, ts, R18 o, 3, rfl, F.sq, F.row, by omega, F.good, by decide, by decide, q⟩
end
def jr18D (o f k : Nat) : List PyData := [.bool (e18 o f k), pD18 o, .bool (decide (o < 6)), levD (edgesL f (R18 o)), .bool (levB 3 f (edgesL f (R18 o))), .int (reachE 3 3 (R18 o) : Nat)]
theorem sh_jr18 {o f k : Nat} (ho : o < 7) (hf : f < 3) : Sh 60 80000 (.list (jr18D o f k)) := by
  have G := good_of_B (good_R18 o ho)
  have l7 := len_R18 o ho
  have a1 : ∀ b : Bool, Sh 5 2000 (.bool b) := fun b => (Sh.bool _).mono (by decide) (by decide)
  have a2 : Sh 5 2000 (pD18 o) := by
    unfold pD18
    split
    · rename_i c
      obtain ⟨h1, h2⟩ := ab18 o c
      have b1 := sh_list (ms := [0, 1, 2]) (by decide) (by decide)
      have b2 := sh_list (ms := [A18 o]) (by show 1 ≤ 60; decide) (by simpa using (by omega : A18 o < 60))
      have b3 := sh_list (ms := [B18 o]) (by show 1 ≤ 60; decide) (by simpa using (by omega : B18 o < 60))
      exact (Sh.tup (ShAll.cons (b1.mono (dp' := 1) (wt' := 500) (by decide) (by decide)) (ShAll.cons (b2.mono (dp' := 1) (wt' := 500) (by decide) (by decide)) (ShAll.cons (b3.mono (dp' := 1) (wt' := 500) (by decide) (by decide)) (ShAll.nil.mono (Nat.zero_le _) (Nat.le_refl _)))))).mono (by decide) (by decide)
    · exact Sh.none.mono (by decide) (by decide)
  have el : (edgesL f (R18 o)).length ≤ 7 := by
    rw [edgesE G (by omega), List.length_map]
    exact l7
  have a3 : Sh 5 2000 (levD (edgesL f (R18 o))) := by
    have sl := sortE_len (edgesL f (R18 o))
    have := Sh.tup (sh_levs (es := edgesL f (R18 o)) (sz := f) (by omega) (ks := sortE (edgesL f (R18 o))) fun k hk => by
      obtain ⟨e, he, rfl⟩ := sortE_mem hk
      obtain ⟨b1, b2, b3, b4⟩ := allE_back (edge_mem G (by omega : f < 3) e he)
      exact ⟨e, rfl, by omega, fun x hx => by have := (b4 x hx).1; omega, by omega⟩)
    refine this.mono (by decide) ?_
    have w : (7 * f + 21) * (sortE (edgesL f (R18 o))).length ≤ 35 * 7 := Nat.mul_le_mul (by omega) (by omega)
    omega
  have a4 : Sh 5 2000 (.int (reachE 3 3 (R18 o) : Nat)) := by
    have : reachE 3 3 (R18 o) ≤ 3 := by
      by_cases c : o < 6
      · rw [reach_odd18 c (by decide)]
        decide
      · obtain rfl : o = 6 := by omega
        rw [reach_even18 (by decide)]
        decide
    exact (Sh.int (b := 6) (by decide) (by decide) (by rw [Int.natAbs_natCast]; omega)).mono (by decide) (by decide)
  exact (Sh.lst (ShAll.cons (a1 _) (ShAll.cons a2 (ShAll.cons (a1 _) (ShAll.cons a3 (ShAll.cons (a1 _) (ShAll.cons a4 (ShAll.nil.mono (Nat.zero_le _) (Nat.le_refl _))))))))).mono (by decide) (by decide)
/-! ### judging by keywords -/
theorem L18.cat {K : PySem.W.Frag} {H : Hp} {l m p : Addr} {xs ys : List V} {ds es : List PyData} (h : L18 K H l xs ds) (k : L18 K H m ys es) (n : H p = none) : L18 K (upd H p (.lst (xs ++ ys))) p (xs ++ ys) (ds ++ es) := ⟨upd_same, dpA_ts (.of (same_new n)) (dpAll_app18 h.dp k.dp) (noLA_app h.nl k.nl), noLA_app h.nl k.nl⟩
theorem L18.new {K : PySem.W.Frag} {H : Hp} {p : Addr} {xs : List V} {ds : List PyData} (h : DpAll K H xs ds) (nl : noLA ds = true) (n : H p = none) : L18 K (upd H p (.lst xs)) p xs ds := ⟨upd_same, dpA_ts (.of (same_new n)) h nl, nl⟩
theorem ext_upd18 {H H' : Hp} {l : Addr} {o : HO} (e : LamX.ExtN H H') (n : H l = none) : LamX.ExtN H (upd H' l o) := fun b u h m => by
  rw [upd_ne (ne_of_none h n)]
  exact e b u h m
theorem tabs_upd18 {TS : List NdefX.NTab} {H : Hp} {l : Addr} {xs : List V} {o : HO} (t : NdefX.TabsN TS H) (hl : H l = some (.lst xs)) : NdefX.TabsN TS (upd H l o) := fun q hq => by
  obtain ⟨ps, h1, h2, h3⟩ := t q hq
  refine ⟨ps, ?_, h2, fun pos cv hc => ?_⟩
  · rw [upd_ne (fun z => by rw [z, hl] at h1; cases h1)]
    exact h1
  · obtain ⟨c, e1, e2⟩ := h3 pos cv hc
    refine ⟨c, e1, ?_⟩
    rw [upd_ne (fun z => by rw [z, hl] at e2; unfold LamX.CodeO at e2; cases e2)]
    exact e2
def spJr18 (K : PySem.W.Frag) (tabs : List NdefX.NTab) : Sp := fun vs H Q _ => ∃ (a : Addr) (ts : List V) (o f k : Nat), vs = [.ref a, .int f, .int k] ∧ Fy K H a ts o ∧ 1 ≤ f ∧ f ≤ 2 ∧ 1 ≤ k ∧ k ≤ 2 ∧ NdefX.TabsN tabs H ∧ ∀ H', LamX.ExtN H H' → NdefX.TabsN tabs H' → Q (.bl true) H'
section
variable {P : Program} {w : World} {K : PySem.W.Frag} {mg : Str → Option Value} {base : Heap}
theorem ok_jr18 (T : Txt K mg) (B : TBs T base) {j : Nat} : FnG P w K mg base CX0 (j + 10) T.fJr18 T.fdJr18 ["_law_rows", "_law_away", "_law_many"] (spJr18 K (tabsOf T)) := by
  refine Fun_ok0 T.FJr18 scJr18 (fun vs H Q E h => ?_) (fun cdv A outer s H vs Q E gd hr h => ?_)
  · obtain ⟨a, ts, o, f, k, rfl, _⟩ := h
    rfl
  · obtain ⟨a, ts, o, f, k, rfl, F, f1, f2, k1, k2, hT, q⟩ := h
    have hu66 : (A.deeper (envOfC "_law_judged_right" (defScope sJr18) s.heap.objs.size T.fJr18 cdv)).units + 66 < cLine := by
      have := hr.un
      omega
    refine ⟨_, pss_cons (ps_set (i := 3) scJr18.nd rfl (.inl rfl) (pe_call (ok_unev T B) hr (by rfl) T.gUnev T.FUnev.kp T.bUnev .nil passF (pa_cons pe_int (pa_cons (pv 0) (pa_cons (pv 1) (pa_cons (pv 2) pa_nil)))))) (pss_cons (ps_set (i := 4) scJr18.nd rfl (.inl rfl) (pe_lst (pa_cons (pe_call (ok_iseven T) hr (by rfl) T.gIsEven T.FIsEven.kp T.bIsEven .nil passF (pa_cons pe_int (pa_cons (pv 0) (pa_cons (pv 1) (pa_cons (pv 2) pa_nil))))) (pa_cons (pv 3) (pa_cons (pe_call (ok_showsu T) hr (by rfl) T.gShowsU T.FShowsU.kp T.bShowsU .nil passF (pa_cons pe_int (pa_cons (pv 0) (pa_cons (pv 1) (pa_cons (pv 2) (pa_cons (pv 3) pa_nil)))))) pa_nil))))) (pss_cons (ps_set (i := 5) scJr18.nd rfl (.inl rfl) (pe_lst (pa_cons (pe_kw (ok_iseven T) hr (by rfl) T.gIsEven T.FIsEven.kp T.kIsEven_factor_failures_table_n passF (pk_cons (pv 2) (pk_cons (pv 1) (pk_cons (pv 0) (pk_cons pe_int pk_nil))))) (pa_cons (pe_kw (ok_unev T B) hr (by rfl) T.gUnev T.FUnev.kp T.kUnev_factor_failures_table_n passF (pk_cons (pv 2) (pk_cons (pv 1) (pk_cons (pv 0) (pk_cons pe_int pk_nil))))) pa_nil)))) (pss_cons (ps_expr (pe_bm PySem.F.plainAttrs_list PySem.F.slot_list_append PySem.F.type_list_append mt_append (pv 5) (pa_cons (pe_kw (ok_showsu T) hr (by rfl) T.gShowsU T.FShowsU.kp T.kShowsU_thing_factor_failures_table_n passF (pk_cons (pv 3) (pk_cons (pv 2) (pk_cons (pv 1) (pk_cons (pv 0) (pk_cons pe_int pk_nil)))))) pa_nil))) (pss_cons (ps_set (i := 4) scJr18.nd rfl (.inl rfl) (pe_op op_cat (pv 4) (pe_lst (pa_cons (pe_call (ok_levnums T) hr (by rfl) T.gLevNums T.FLevNums.kp T.bLevNums .nil pass0 (pa_cons pe_int (pa_cons (pv 0) (pa_cons (pv 1) pa_nil)))) (pa_cons (pe_call (ok_islev T) hr (by rfl) T.gIsLev T.FIsLev.kp T.bIsLev .nil pass0 (pa_cons pe_int (pa_cons (pv 0) (pa_cons (pv 1) pa_nil)))) (pa_cons (pe_call (ok_reache T) hr (by rfl) T.gReachE T.FReachE.kp T.bReachE .nil pass0 (pa_cons pe_int (pa_cons (pv 0) pa_nil))) pa_nil)))))) (pss_cons (ps_set (i := 5) scJr18.nd rfl (.inl rfl) (pe_op op_cat (pv 5) (pe_lst (pa_cons (pe_kw (ok_levnums T) hr (by rfl) T.gLevNums T.FLevNums.kp T.kLevNums_size_table_n pass0 (pk_cons (pv 1) (pk_cons (pv 0) (pk_cons pe_int pk_nil)))) (pa_cons (pe_kw (ok_islev T) hr (by rfl) T.gIsLev T.FIsLev.kp T.kIsLev_size_table_n pass0 (pk_cons (pv 1) (pk_cons (pv 0) (pk_cons pe_int pk_nil)))) pa_nil))))) (pss_cons (ps_expr (pe_bm PySem.F.plainAttrs_list PySem.F.slot_list_append PySem.F.type_list_append mt_append (pv 5) (pa_cons (pe_kw (ok_reache T) hr (by rfl) T.gReachE T.FReachE.kp T.kReachE_table_n pass0 (pk_cons (pv 0) (pk_cons pe_int pk_nil))) pa_nil))) (pss_one (ps_ret (pe_cmpR op_eq (pe_callB (call_reprK K gd hu66) (by rfl) T.n_repr (by decide +kernel) (pa_cons (pv 4) pa_nil)) (pe_callB (call_reprK K gd hu66) (by rfl) T.n_repr (by decide +kernel) (pa_cons (pv 5) pa_nil)) (nomark _)))))))))), ?_⟩
    refine ⟨.ref a, rfl, _, rfl, _, rfl, ?_⟩
    try dsimp only [tNil, tCons, tCall, tC, tCallK]
    show spUnev18 K (tabsOf T) [.int 3, .ref a, .int f, .int k] _ _ _
    refine unT18 F hT f1 k1 k2 fun H1 pv e1 T1 n1 hp1 => ?_
    have F1 := F.go (.ext e1)
    dsimp only [gName]
    refine ⟨.ref a, rfl, _, rfl, _, rfl, ?_⟩
    try dsimp only [tNil, tCons, tCall, tC, tCallK]
    show spIsEven K _ [.int 3, .ref a, .int f, .int k] _ _ _
    refine ieT18 F1 fun H2 s2 => ?_
    have F2 := F1.go (.of s2)
    have hp2 := hp1.ts (.of s2)
    refine ⟨pv, rfl, .ref a, rfl, _, rfl, _, rfl, pv, rfl, ?_⟩
    try dsimp only [tNil, tCons, tCall, tC, tCallK]
    show spShowsU K [.int 3, .ref a, .int f, .int k, pv] _ _ _ ∨ spShowsN K [.int 3, .ref a, .int f, .int k, pv] _ _ _
    refine shT18 F2 f1 k1 hp2 fun H3 s3 => ?_
    have F3 := F2.go (.of s3)
    have hp3 := hp2.ts (.of s3)
    refine ⟨by show 3 ≤ sizeLine; decide, fun l1 nl1 => ?_⟩
    have np : noL (pD18 o) = true := noL_p18 o F.ho
    have s4 := same_new (o := .lst [V.bl (e18 o f k), pv, V.bl (decide (o < 6))]) nl1
    have L1 : L18 K _ l1 [V.bl (e18 o f k), pv, V.bl (decide (o < 6))] [.bool (e18 o f k), pD18 o, .bool (decide (o < 6))] := L18.new (.cons (.bl _) (.cons hp3.dp (.cons (.bl _) .nil))) (by
      show (true && (noL (pD18 o) && (true && true))) = true
      rw [np]
      rfl) nl1
    have s14 := (s2.trans s3).trans s4
    have F4 := F3.go (.of s4)
    have hp4 := hp3.ts (.of s4)
    have e4 := e1.trans (extN_same s14)
    have T4 := T1.ext s14
    have fr4 : H l1 = none := n1 _ ((s2.trans s3).free nl1)
    have n4 : ∀ b, (upd H3 l1 (.lst [V.bl (e18 o f k), pv, V.bl (decide (o < 6))])) b = none → H b = none := fun b z => n1 b (s14.free z)
    generalize upd H3 l1 (.lst [V.bl (e18 o f k), pv, V.bl (decide (o < 6))]) = H4 at L1 F4 hp4 e4 T4 n4 ⊢
    clear s2 s3 s4 s14 F1 F2 F3 hp1 hp2 hp3 e1 T1 n1 nl1
    dsimp only [gName]
    -- the second list
    refine ⟨_, rfl, _, rfl, .ref a, rfl, ?_⟩
    try dsimp only [tNil, tCons, tCall, tC, tCallK]
    show spIsEven K _ [.int 3, .ref a, .int f, .int k] _ _ _
    refine ieT18 F4 fun H5 s5 => ?_
    have F5 := F4.go (.of s5)
    refine ⟨_, rfl, _, rfl, .ref a, rfl, ?_⟩
    try dsimp only [tNil, tCons, tCall, tC, tCallK]
    show spUnev18 K (tabsOf T) [.int 3, .ref a, .int f, .int k] _ _ _
    refine unT18 F5 (T4.ext s5) f1 k1 k2 fun H6 pw e6 T6 n6 hq6 => ?_
    have F6 := F5.go (.ext e6)
    have L1b := (L1.same s5).ext e6
    have hp6 := (hp4.ts (.of s5)).ts (.ext e6)
    refine ⟨by show 2 ≤ sizeLine; decide, fun l2 nl2 => ?_⟩
    have s7 := same_new (o := .lst [V.bl (e18 o f k), pw]) nl2
    have L2 : L18 K _ l2 [V.bl (e18 o f k), pw] [.bool (e18 o f k), pD18 o] := L18.new (.cons (.bl _) (.cons hq6.dp .nil)) (by
      show (true && (noL (pD18 o) && true)) = true
      rw [np]
      rfl) nl2
    have L1c := L1b.same s7
    have F7 := F6.go (.of s7)
    have hp7 := hp6.ts (.of s7)
    have e7 := (e4.trans (extN_same s5)).trans (e6.trans (extN_same s7))
    have T7 := T6.ext s7
    have fr2 : H l2 = none := n4 _ (s5.free (n6 _ nl2))
    have ne12 : l1 ≠ l2 := fun e => by
      have := L1b.at_
      rw [e, nl2] at this
      cases this
    generalize upd H6 l2 (.lst [V.bl (e18 o f k), pw]) = H7 at L2 L1c F7 hp7 e7 T7 ⊢
    clear s5 s7 F4 F5 F6 hp4 hp6 hq6 e4 e6 T4 T6 n6 nl2 L1 L1b
    dsimp only [gName]
    refine ⟨.ref l2, rfl, .inl ⟨rfl, _, SqL.of L2.at_⟩, pv, rfl, _, rfl, _, rfl, .ref a, rfl, ?_⟩
    try dsimp only [tNil, tCons, tCall, tC, tCallK]
    show spShowsU K [.int 3, .ref a, .int f, .int k, pv] _ _ _ ∨ spShowsN K [.int 3, .ref a, .int f, .int k, pv] _ _ _
    refine shT18 F7 f1 k1 hp7 fun H8 s8 => ?_
    refine ⟨l2, _, _, rfl, rfl, (L2.same s8).at_, by show 2 < sizeLine; decide, ?_⟩
    have at8 := (L2.same s8).at_
    have L2b := (L2.same s8).push (v := V.bl (decide (o < 6))) (d := .bool (decide (o < 6))) (.bl _) rfl
    have L1d := (L1c.same s8).other (o := .lst ([V.bl (e18 o f k), pw] ++ [V.bl (decide (o < 6))])) at8 ne12
    have F8 := (F7.go (.of s8)).go (TS.upd (o := .lst ([V.bl (e18 o f k), pw] ++ [V.bl (decide (o < 6))])) at8)
    have e8 := ext_upd18 (o := .lst ([V.bl (e18 o f k), pw] ++ [V.bl (decide (o < 6))])) (e7.trans (extN_same s8)) fr2
    have T8 := tabs_upd18 (o := .lst ([V.bl (e18 o f k), pw] ++ [V.bl (decide (o < 6))])) (T7.ext s8) at8
    generalize upd H8 l2 (.lst ([V.bl (e18 o f k), pw] ++ [V.bl (decide (o < 6))])) = H9 at L2b L1d F8 e8 T8 ⊢
    clear s8 at8 L2 L1c F7 e7 T7 hp7
    -- levels
    refine ⟨.ref l1, rfl, .ref a, rfl, _, rfl, ?_⟩
    try dsimp only [tNil, tCons, tCall, tC, tCallK]
    show spLevNums K [.int 3, .ref a, .int f] _ _ _
    refine lnT18 F8 fun H10 u10 s10 D10 => ?_
    refine ⟨.ref a, rfl, _, rfl, ?_⟩
    try dsimp only [tNil, tCons, tCall, tC, tCallK]
    show spIsLev K [.int 3, .ref a, .int f] _ _ _
    refine ilT18 (F8.go (.of s10)) (by omega) fun H11 s11 => ?_
    refine ⟨.ref a, rfl, ?_⟩
    try dsimp only [tNil, tCons, tCall, tC, tCallK]
    show spReachE K [.int 3, .ref a] _ _ _
    refine reT18 ((F8.go (.of s10)).go (.of s11)) fun H12 s12 => ?_
    refine ⟨by show 3 ≤ sizeLine; decide, fun l3 nl3 => ?_⟩
    have D12 := dp_ts (.of (s11.trans s12)) D10 noL_lev
    have L3 : L18 K _ l3 [V.ref u10, V.bl (levB 3 f (edgesL f (R18 o))), V.int (reachE 3 3 (R18 o) : Nat)] [levD (edgesL f (R18 o)), .bool (levB 3 f (edgesL f (R18 o))), .int (reachE 3 3 (R18 o) : Nat)] := L18.new (.cons D12 (.cons (.bl _) (.cons (.int _) .nil))) (by
      show (noL (levD (edgesL f (R18 o))) && (true && (true && true))) = true
      rw [noL_lev]
      rfl) nl3
    have s13 := ((s10.trans s11).trans s12).trans (same_new (o := .lst [V.ref u10, V.bl (levB 3 f (edgesL f (R18 o))), V.int (reachE 3 3 (R18 o) : Nat)]) nl3)
    have L1e := L1d.same s13
    have L2c := L2b.same s13
    have F13 := F8.go (.of s13)
    have e13 := e8.trans (extN_same s13)
    have T13 := T8.ext s13
    generalize upd H12 l3 (.lst [V.ref u10, V.bl (levB 3 f (edgesL f (R18 o))), V.int (reachE 3 3 (R18 o) : Nat)]) = H13 at L3 L1e L2c F13 e13 T13 ⊢
    clear s10 s11 s12 s13 D10 D12 nl3 L1d L2b F8 e8 T8
    refine ⟨l1, l3, _, _, rfl, rfl, L1e.at_, L3.at_, by show 6 ≤ sizeLine; decide, fun l4 nl4 => ?_⟩
    have L4 := L1e.cat L3 nl4
    have s14 := same_new (o := .lst ([V.bl (e18 o f k), pv, V.bl (decide (o < 6))] ++ [V.ref u10, V.bl (levB 3 f (edgesL f (R18 o))), V.int (reachE 3 3 (R18 o) : Nat)])) nl4
    have L2d := L2c.same s14
    have F14 := F13.go (.of s14)
    have e14 := e13.trans (extN_same s14)
    have T14 := T13.ext s14
    generalize upd H13 l4 (.lst ([V.bl (e18 o f k), pv, V.bl (decide (o < 6))] ++ [V.ref u10, V.bl (levB 3 f (edgesL f (R18 o))), V.int (reachE 3 3 (R18 o) : Nat)])) = H14 at L4 L2d F14 e14 T14 ⊢
    clear s14 nl4 L1e L3 L2c F13 e13 T13
    dsimp only [gName]
    refine ⟨.ref l2, rfl, _, rfl, .ref a, rfl, ?_⟩
    try dsimp only [tNil, tCons, tCall, tC, tCallK]
    show spLevNums K [.int 3, .ref a, .int f] _ _ _
    refine lnT18 F14 fun H15 u15 s15 D15 => ?_
    refine ⟨_, rfl, .ref a, rfl, ?_⟩
    try dsimp only [tNil, tCons, tCall, tC, tCallK]
    show spIsLev K [.int 3, .ref a, .int f] _ _ _
    refine ilT18 (F14.go (.of s15)) (by omega) fun H16 s16 => ?_
    refine ⟨by show 2 ≤ sizeLine; decide, fun l5 nl5 => ?_⟩
    have D16 := dp_ts (.of s16) D15 noL_lev
    have L5 : L18 K _ l5 [V.ref u15, V.bl (levB 3 f (edgesL f (R18 o)))] [levD (edgesL f (R18 o)), .bool (levB 3 f (edgesL f (R18 o)))] := L18.new (.cons D16 (.cons (.bl _) .nil)) (by
      show (noL (levD (edgesL f (R18 o))) && (true && true)) = true
      rw [noL_lev]
      rfl) nl5
    have s17 := (s15.trans s16).trans (same_new (o := .lst [V.ref u15, V.bl (levB 3 f (edgesL f (R18 o)))]) nl5)
    have L4b := L4.same s17
    have L2e := L2d.same s17
    have F17 := F14.go (.of s17)
    have e17 := e14.trans (extN_same s17)
    have T17 := T14.ext s17
    generalize upd H16 l5 (.lst [V.ref u15, V.bl (levB 3 f (edgesL f (R18 o)))]) = H17 at L5 L4b L2e F17 e17 T17 ⊢
    clear s15 s16 s17 D15 D16 nl5 L4 L2d F14 e14 T14
    refine ⟨l2, l5, _, _, rfl, rfl, L2e.at_, L5.at_, by show 5 ≤ sizeLine; decide, fun l6 nl6 => ?_⟩
    have L6 := L2e.cat L5 nl6
    have s18 := same_new (o := .lst (([V.bl (e18 o f k), pw] ++ [V.bl (decide (o < 6))]) ++ [V.ref u15, V.bl (levB 3 f (edgesL f (R18 o)))])) nl6
    have L4c := L4b.same s18
    have F18 := F17.go (.of s18)
    have e18' := e17.trans (extN_same s18)
    have T18 := T17.ext s18
    have ne46 : l4 ≠ l6 := fun e => by
      have := L4b.at_
      rw [e, nl6] at this
      cases this
    generalize upd H17 l6 (.lst (([V.bl (e18 o f k), pw] ++ [V.bl (decide (o < 6))]) ++ [V.ref u15, V.bl (levB 3 f (edgesL f (R18 o)))])) = H18 at L6 L4c F18 e18' T18 ⊢
    clear s18 L4b L2e L5 F17
    dsimp only [gName]
    refine ⟨.ref l6, rfl, .inl ⟨rfl, _, SqL.of L6.at_⟩, .ref a, rfl, ?_⟩
    try dsimp only [tNil, tCons, tCall, tC, tCallK]
    show spReachE K [.int 3, .ref a] _ _ _
    refine reT18 F18 fun H19 s19 => ?_
    have at19 := (L6.same s19).at_
    refine ⟨l6, _, _, rfl, rfl, at19, by show 5 < sizeLine; decide, ?_⟩
    have L6b := (L6.same s19).push (v := V.int (reachE 3 3 (R18 o) : Nat)) (d := .int (reachE 3 3 (R18 o) : Nat)) (.int _) rfl
    have L4d := (L4c.same s19).other (o := .lst ((([V.bl (e18 o f k), pw] ++ [V.bl (decide (o < 6))]) ++ [V.ref u15, V.bl (levB 3 f (edgesL f (R18 o)))]) ++ [V.int (reachE 3 3 (R18 o) : Nat)])) at19 ne46
    have fr6 : ∀ u, H l6 = some u → (∀ ps, u ≠ .tbl ps) → False := fun u h n => by
      have := e17 _ _ h n
      rw [nl6] at this
      cases this
    have e20 : LamX.ExtN H (upd H19 l6 (.lst ((([V.bl (e18 o f k), pw] ++ [V.bl (decide (o < 6))]) ++ [V.ref u15, V.bl (levB 3 f (edgesL f (R18 o)))]) ++ [V.int (reachE 3 3 (R18 o) : Nat)]))) := fun b u h n => by
      rw [upd_ne (fun z => fr6 u (by rw [← z]; exact h) n)]
      exact s19 _ _ (e18' b u h n)
    have T20 := tabs_upd18 (o := .lst ((([V.bl (e18 o f k), pw] ++ [V.bl (decide (o < 6))]) ++ [V.ref u15, V.bl (levB 3 f (edgesL f (R18 o)))]) ++ [V.int (reachE 3 3 (R18 o) : Nat)])) (T18.ext s19) at19
    have shL := sh_jr18 (k := k) F.ho (show f < 3 by omega)
    refine ⟨.ref l4, rfl, .ref l4, .list (jr18D o f k), rfl, L4d.data, shL, .ref l6, rfl, .ref l6, .list (jr18D o f k), rfl, L6b.data, shL, rfl, ?_⟩
    rw [decide_eq_true rfl]
    exact q _ e20 T20
end
/-! ### the law -/
theorem tabs_but18 {TS : List NdefX.NTab} {H H' : Hp} {p : Addr} {xs : List V} (t : NdefX.TabsN TS H) (hp : H p = some (.lst xs)) (s : But p H H') : NdefX.TabsN TS H' := fun q hq => by
  obtain ⟨ps, h1, h2, h3⟩ := t q hq
  refine ⟨ps, s _ _ (fun z => ?_) h1, h2, fun pos cv hc => ?_⟩
  · rw [z, hp] at h1
    cases h1
  · obtain ⟨c, e1, e2⟩ := h3 pos cv hc
    refine ⟨c, e1, s _ _ (fun z => ?_) e2⟩
    rw [z, hp] at e2
    unfold LamX.CodeO at e2
    cases e2
theorem ts_but18 {H H' : Hp} {p : Addr} {xs : List V} (hp : H p = some (.lst xs)) (s : But p H H') : TS H H' := fun b o e n _ => s b o (fun z => n xs (by rw [z, hp] at e; exact (Option.some.inj e).symm)) e
theorem cut_drop18g {xs : List V} {i : Nat} (h : i ≤ xs.length) : cutV xs (some (i : Int)) none = xs.drop i := by
  unfold cutV
  rw [HT.sIx_none, HT.sIx_nat, Nat.min_eq_left h, List.take_of_length_le (by rw [List.length_drop]; exact Nat.le_refl _)]
/-- numbers and the table -/
structure S18s (tabs : List NdefX.NTab) (K : PySem.W.Frag) (H0 H : Hp) (p a : Addr) (m : Nat) (ts : List V) (o : Nat) : Prop where
  pot : PotAt H p m
  tab : NdefX.TabsN tabs H
  keep : LamX.ExtN H0 H
  no : H0 p = none
  fy : Fy K H a ts o
section
variable {tabs : List NdefX.NTab} {K : PySem.W.Frag} {H0 H H' : Hp} {p a : Addr} {m m' : Nat} {ts : List V} {o : Nat}
theorem S18s.ext (S : S18s tabs K H0 H p a m ts o) (e : LamX.ExtN H H') (t : NdefX.TabsN tabs H') : S18s tabs K H0 H' p a m ts o := by
  obtain ⟨x, y, c, h1, h2⟩ := S.pot
  exact ⟨⟨x, y, c, extN_lst e h1, h2⟩, t, S.keep.trans e, S.no, S.fy.go (.ext e)⟩
theorem S18s.same (S : S18s tabs K H0 H p a m ts o) (s : Same H H') : S18s tabs K H0 H' p a m ts o := S.ext (extN_same s) (S.tab.ext s)
theorem S18s.mono (S : S18s tabs K H0 H p a m ts o) (h : m ≤ m') : S18s tabs K H0 H p a m' ts o := ⟨S.pot.mono h, S.tab, S.keep, S.no, S.fy⟩
theorem S18s.to (S : S18s tabs K H0 H p a m ts o) (b : But p H H') (P : PotAt H' p m') : S18s tabs K H0 H' p a m' ts o := by
  obtain ⟨x, y, z, e, _⟩ := S.pot
  exact ⟨P, tabs_but18 S.tab e b, fun q u h n => b q u (ne_of_none h S.no) (S.keep q u h n), S.no, S.fy.go (ts_but18 e b)⟩
end
def spLaw (K : PySem.W.Frag) (tabs : List NdefX.NTab) : Sp := fun vs H Q _ => ∃ (a : Addr) (ns : List Int), vs = [.ref a] ∧ SqL K H a (ns.map V.int) ∧ ns.length ≤ 63 ∧ NdefX.TabsN tabs H ∧ ∀ H', Q (.bl true) H'
section
variable {P : Program} {w : World} {K : PySem.W.Frag} {mg : Str → Option Value} {base : Heap}
theorem ok_law {f : Addr} {fd : FuncData} (F : Fun K "law" "law" sLaw f fd) (T : Txt K mg) (co : True) (B : TBs T base) : FnG P w K mg base CX0 12 f fd ["_law_script"] (spLaw K (tabsOf T)) := by
  refine Fun_ok0 F scLaw (fun vs H Q E h => ?_) (fun cdv A outer s H vs Q E gd hr h => ?_)
  · obtain ⟨a, ns, rfl, _⟩ := h
    rfl
  · obtain ⟨a, ns, rfl, hS, hlen, hT0, q⟩ := h
    have hu66 : (A.deeper (envOfC "law" (defScope sLaw) s.heap.objs.size f cdv)).units + 66 < cLine := by
      have := hr.un
      omega
    refine ⟨_, pss_cons (ps_for PassesOwn.never rfl (pi_range1 (by rfl) T.n_range (pa_cons (pe_callB (call_max2 rfl) (by rfl) T.n_max (by decide +kernel) (pa_cons pe_int (pa_cons (pe_callB (call_min2 rfl) (by rfl) T.n_min (by decide +kernel) (pa_cons pe_int (pa_cons (pe_callB (call_lenK K) (by rfl) T.n_len PySem.boot_len (pa_cons (pv 0) pa_nil)) pa_nil))) pa_nil))) pa_nil)) (pg_name (i := 1) scLaw.nd rfl (.inl rfl)) (pss_cons (ps_set (i := 2) scLaw.nd rfl (.inl rfl) (pe_call (ok_pot T) hr (by rfl) T.gPot T.FPot.kp T.bPot .nil pass0 (pa_cons (pv 0) (pa_cons (pv 1) pa_nil)))) (pss_cons (ps_set (i := 3) scLaw.nd rfl (.inl rfl) (pe_call (ok_stdt T) hr (by rfl) T.gStdT T.FStdT.kp T.bStdT .nil passF (pa_cons pe_int (pa_cons pe_int (pa_cons pe_int pa_nil))))) (C8.pss_cut (ps_if (pt_cmpR op_eq (pe_call (ok_take T) hr (by rfl) T.gTake T.FTake.kp T.bTake .nil pass0 (pa_cons (pv 2) (pa_cons pe_int pa_nil))) pe_int (nomark _)) (pss_one (ps_set (i := 3) scLaw.nd rfl (.inl rfl) (pe_op (op_catS K) (pv 3) (pe_slice (sl_tupS K) (pe_slice (sl_tupS K) (pv 3) (po_some (pe_call (ok_take T) hr (by rfl) T.gTake T.FTake.kp T.bTake .nil pass0 (pa_cons (pv 2) (pa_cons pe_int pa_nil)))) po_none) po_none (po_some pe_int))))) pss_nil) (pss_cons (ps_set (i := 4) scLaw.nd rfl (.inl rfl) (pe_ix (ix_listK K) (pe_lst (pa_cons (pe_tup (pa_cons pe_int (pa_cons pe_int pa_nil))) (pa_cons (pe_tup (pa_cons pe_int (pa_cons pe_int pa_nil))) (pa_cons (pe_tup (pa_cons pe_int (pa_cons pe_int pa_nil))) (pa_cons (pe_tup (pa_cons pe_int (pa_cons pe_int (pa_cons pe_int pa_nil)))) pa_nil))))) (pe_call (ok_take T) hr (by rfl) T.gTake T.FTake.kp T.bTake .nil pass0 (pa_cons (pv 2) (pa_cons pe_int pa_nil))) (fun _ _ => rfl))) (pss_cons (ps_par3 (i := 5) (j := 6) (l := 7) rfl scLaw.nd rfl rfl rfl (by decide) (by decide) (by decide) rfl rfl rfl (pa_cons (pe_op op_add pe_int (pe_call (ok_take T) hr (by rfl) T.gTake T.FTake.kp T.bTake .nil pass0 (pa_cons (pv 2) (pa_cons pe_int pa_nil)))) (pa_cons (pe_op op_add pe_int (pe_call (ok_take T) hr (by rfl) T.gTake T.FTake.kp T.bTake .nil pass0 (pa_cons (pv 2) (pa_cons pe_int pa_nil)))) (pa_cons (pe_callB (call_reprK K gd hu66) (by rfl) T.n_repr (by decide +kernel) (pa_cons (pv 3) pa_nil)) pa_nil))) (by rfl)) (pss_one (ps_if (PW.pt (pw_or (pt_not (pt_val (pe_callG (ok_tr18 T) gd hr (by rfl) T.gTr18 T.FTr18.kp T.bTr18 pass0 (pa_cons (pv 3) (pa_cons (pv 4) (pa_cons (pv 5) pa_nil)))))) (pw_or (pt_not (pt_val (pe_callG (ok_jr18 T B) gd hr (by rfl) T.gJr18 T.FJr18.kp T.bJr18 pass0 (pa_cons (pv 3) (pa_cons (pv 6) (pa_cons (pv 5) pa_nil)))))) (pw_or1 (pt_cmpR op_ne (pe_callB (call_reprK K gd hu66) (by rfl) T.n_repr (by decide +kernel) (pa_cons (pv 3) pa_nil)) (pv 7) (nomark _)))))) (pss_one (ps_ret pe_bl)) pss_nil)))))))) (pss_one (ps_ret pe_bl)), ?_⟩
    refine ⟨.ref a, rfl, a, _, rfl, .inl hS, _, _, rfl, _, _, rfl, _, rfl, ?_, ?_, ?_⟩
    · split <;> split <;> omega
    · split <;> split <;> omega
    refine for_range (lo := 0) (fun i σ H2 => ∃ v1 v2 v3 v4 v5 v6 v7, σ = [some (.ref a), v1, v2, v3, v4, v5, v6, v7] ∧ LamX.ExtN H H2 ∧ NdefX.TabsN (tabsOf T) H2) ⟨none, none, none, none, none, none, none, rfl, LamX.ExtN.refl H, hT0⟩ ?_ ?_
    rotate_left
    · rintro σ H2 ⟨v1, v2, v3, v4, v5, v6, v7, rfl, _⟩
      exact q _
    rintro i σ H2 hi ⟨v1, v2, v3, v4, v5, v6, v7, rfl, e2, T2⟩
    have hi3 : i < 3 := by
      refine Nat.lt_of_lt_of_le hi ?_
      split <;> split <;> omega
    rw [Int.zero_add]
    refine ⟨.ref a, rfl, _, rfl, a, ns, i, rfl, SqL_extN hS e2, by omega, fun H3 p s3 np P3 => ?_⟩
    dsimp only [gName]
    refine ⟨3, 3, .int 6, some 6, rfl, by decide, by decide, by decide, .inl ⟨6, rfl, rfl⟩, fun z => ?_, fun c e st => ⟨fun h => ?_, fun _ H4 u s4 tb => ?_⟩⟩
    · have : possB (leastL 3 3) (some ((6 : Nat) : Int)) = true := std_poss std18
      rw [show (some (6 : Int)) = some ((6 : Nat) : Int) from rfl, this] at z
      cases z
    · have := Option.some.inj e
      omega
    have e := Option.some.inj e
    obtain rfl : c = 6 := by omega
    obtain ⟨ts, hA, hR⟩ := tb
    have S4 : S18s (tabsOf T) K H2 H4 p u 0 ts 6 := ⟨P3.same s4, (T2.ext s3).ext s4, extN_same (s3.trans s4), np, ⟨hA, hR, by decide⟩⟩
    have tl : ts.length = 6 := (RowsL.len hR).trans (by decide +kernel)
    dsimp only [gName]
    refine ⟨fun σM HM => ∃ a1 ts o, σM = [some (.ref a), some (.int (i : Int)), some (.ref p), some (.ref a1), v4, v5, v6, v7] ∧ S18s (tabsOf T) K H2 HM p a1 2 ts o, ?_, ?_⟩
    · refine ⟨.ref p, rfl, p, _, 2, rfl, S4.pot, by omega, by decide, by decide +kernel, fun r H5 r0 rl P5 B5 => ⟨rfl, _, rfl, ite2 (fun _ => ?_) (fun _ => ?_)⟩⟩
      · have S5 := S4.to B5 P5
        refine ⟨.ref u, rfl, .ref u, rfl, .ref p, rfl, p, _, 6, rfl, S5.pot, by omega, by decide, by decide +kernel, fun r2 H6 r20 r2l P6 B6 => ?_⟩
        obtain ⟨r2, rfl⟩ := Int.eq_ofNat_of_zero_le r20
        have S6 := S5.to B6 P6
        refine ⟨_, rfl, ?_⟩
        dsimp only [tNoPart]
        refine ⟨u, ts, rfl, S6.fy.sq, fun p7 H7 s7 h7 => ?_⟩
        rw [cut_drop18g (by omega)] at h7
        refine ⟨_, rfl, p7, _, rfl, h7, fun p8 H8 s8 h8 => ?_⟩
        rw [show (1 : Int) = ((1 : Nat) : Int) from rfl, cut_takeR] at h8
        have hx : ts[r2]? = some ts[r2] := List.getElem?_eq_getElem (by omega)
        obtain ⟨r, hr2, t, et, ht⟩ := S6.fy.row.at hx
        rw [List.drop_eq_getElem_cons (by omega : r2 < ts.length), List.take_succ_cons, List.take_zero, et] at h8
        have s68 := s7.trans s8
        refine ⟨u, p8, ts, _, rfl, rfl, Same.seqT s68 S6.fy.sq, h8, by rw [sizeLine_eq, tl]; show 7 ≤ _; decide, fun p9 H9 s9 h9 => ?_⟩
        have S9 := S6.same (s68.trans s9)
        have eR : R18 r2 = R18 6 ++ [r] := by
          have e1 : (R18 6).getD r2 [] = r := by rw [List.getD_eq_getElem?_getD, hr2]; rfl
          rw [← e1]
          unfold R18
          rw [if_pos (by omega), if_neg (by decide)]
        exact ⟨p9, ts ++ [.ref t], r2, rfl, S9.pot, S9.tab, S9.keep, S9.no, h9, by rw [eR]; exact RowsL.app S9.fy.row (.cons ⟨t, rfl, Same.seqT (s68.trans s9) ht⟩ .nil), by omega⟩
      · exact ⟨u, ts, 6, rfl, (S4.to B5 P5).mono (by omega)⟩
    rintro σ H5 ⟨a1, ts, o, rfl, S⟩
    refine ⟨by show 2 ≤ sizeLine; decide, fun t1 n1 => ?_⟩
    have x1 := same_new (o := .tup [V.int 0, V.int 1]) n1
    refine ⟨by show 2 ≤ sizeLine; decide, fun t2 n2 => ?_⟩
    have x2 := same_new (o := .tup [V.int 0, V.int 2]) n2
    refine ⟨by show 2 ≤ sizeLine; decide, fun t3 n3 => ?_⟩
    have x3 := same_new (o := .tup [V.int 1, V.int 2]) n3
    refine ⟨by show 3 ≤ sizeLine; decide, fun t4 n4 => ?_⟩
    have x4 := same_new (o := .tup [V.int 0, V.int 1, V.int 2]) n4
    refine ⟨by show 4 ≤ sizeLine; decide, fun l nl => ?_⟩
    have x5 := same_new (o := .lst [V.ref t1, V.ref t2, V.ref t3, V.ref t4]) nl
    have y1 := ((x2.trans x3).trans (x4.trans x5)) _ _ upd_same
    have y2 := (x3.trans (x4.trans x5)) _ _ upd_same
    have y3 := (x4.trans x5) _ _ upd_same
    have y4 := x5 _ _ upd_same
    have y5 : (upd (upd (upd (upd (upd H5 t1 (.tup [V.int 0, V.int 1])) t2 (.tup [V.int 0, V.int 2])) t3 (.tup [V.int 1, V.int 2])) t4 (.tup [V.int 0, V.int 1, V.int 2])) l (.lst [V.ref t1, V.ref t2, V.ref t3, V.ref t4])) l = some (.lst [V.ref t1, V.ref t2, V.ref t3, V.ref t4]) := upd_same
    have S6 := S.same ((x1.trans x2).trans ((x3.trans x4).trans x5))
    have lp : l ≠ p := fun z => by
      obtain ⟨x, y, c, e, _⟩ := (S.same ((x1.trans x2).trans (x3.trans x4))).pot
      rw [z, e] at nl
      cases nl
    generalize upd (upd (upd (upd (upd H5 t1 (.tup [V.int 0, V.int 1])) t2 (.tup [V.int 0, V.int 2])) t3 (.tup [V.int 1, V.int 2])) t4 (.tup [V.int 0, V.int 1, V.int 2])) l (.lst [V.ref t1, V.ref t2, V.ref t3, V.ref t4]) = H6 at y1 y2 y3 y4 y5 S6 ⊢
    clear x1 x2 x3 x4 x5 n1 n2 n3 n4 nl
    refine ⟨.ref p, rfl, p, _, 4, rfl, S6.pot, by omega, by decide, by decide +kernel, fun r H7 r0 rl P7 B7 => ?_⟩
    obtain ⟨r, rfl⟩ := Int.eq_ofNat_of_zero_le r0
    have S7 := S6.to B7 P7
    obtain ⟨xx, yy, cc, ep, _⟩ := S6.pot
    have tsB := ts_but18 ep B7
    have hl7 := B7 _ _ lp y5
    obtain ⟨b, ls, hb, hB, hls⟩ : ∃ b ls, [V.ref t1, V.ref t2, V.ref t3, V.ref t4][r]? = some (V.ref b) ∧ SqT K H7 b (setV ls) ∧ ls ∈ LS18 := by
      have r4 : r < 4 := by omega
      match r, r4 with
      | 0, _ => exact ⟨t1, [0, 1], rfl, SqT.ts (SqT.of y1) tsB, by decide⟩
      | 1, _ => exact ⟨t2, [0, 2], rfl, SqT.ts (SqT.of y2) tsB, by decide⟩
      | 2, _ => exact ⟨t3, [1, 2], rfl, SqT.ts (SqT.of y3) tsB, by decide⟩
      | 3, _ => exact ⟨t4, [0, 1, 2], rfl, SqT.ts (SqT.of y4) tsB, by decide⟩
    refine ⟨l, _, _, _, rfl, rfl, SqL.of hl7, atI_nat hb, ?_⟩
    clear y1 y2 y3 y4 y5 hl7 hb r0 rl S S6 P7 ep tsB
    dsimp only [gName]
    obtain ⟨xx, yy, cc, ep, _⟩ := S7.pot
    refine ⟨.ref p, rfl, p, _, 2, rfl, S7.pot, by omega, by decide, by decide +kernel, fun r5 H8 r50 r5l P8 B8 => ⟨_, _, rfl, rfl, ?_⟩⟩
    obtain ⟨r5, rfl⟩ := Int.eq_ofNat_of_zero_le r50
    have S8 := S7.to B8 P8
    have hB8 := SqT.ts hB (ts_but18 ep B8)
    obtain ⟨xx, yy, cc, ep8, _⟩ := S8.pot
    refine ⟨.ref p, rfl, p, _, 2, rfl, S8.pot, by omega, by decide, by decide +kernel, fun r6 H9 r60 r6l P9 B9 => ⟨_, _, rfl, rfl, ?_⟩⟩
    obtain ⟨r6, rfl⟩ := Int.eq_ofNat_of_zero_le r60
    have S9 := S8.to B9 P9
    have hB9 := SqT.ts hB8 (ts_but18 ep8 B9)
    have G := S9.fy.good
    have l7 := S9.fy.len.1
    have shR : Sh 60 80000 (.tuple ((R18 o).map tupD)) := (Sh.tup (sh_rows (d := 3) (rows := R18 o) fun r hr => ⟨by rw [(G.2 r hr).1]; exact Nat.le_refl _, fun x hx => by have := (G.2 r hr).2.2 x hx; omega⟩)).mono (by decide) (by omega)
    refine ⟨.ref a1, rfl, .ref a1, _, rfl, .tup S9.fy.sq (RowsL.dp S9.fy.row), shR, ?_⟩
    refine ⟨_, _, _, rfl, ?_⟩
    dsimp only
    rw [show (1 : Int) + (r5 : Int) = ((1 + r5 : Nat) : Int) by omega, show (1 : Int) + (r6 : Int) = ((1 + r6 : Nat) : Int) by omega]
    have hm1 : 1 ≤ 1 + r5 := by omega
    have hm2 : 1 + r5 ≤ 2 := by omega
    have ha1 : 1 ≤ 1 + r6 := by omega
    have ha2 : 1 + r6 ≤ 2 := by omega
    generalize 1 + r5 = mm at hm1 hm2 ⊢
    generalize 1 + r6 = aw at ha1 ha2 ⊢
    refine ⟨.ref a1, rfl, .ref b, rfl, _, rfl, a1, b, ts, o, mm, ls, rfl, ⟨S9.fy.sq, S9.fy.row, S9.fy.ho, hB9, hls⟩, hm1, hm2, fun H10 s10 => ⟨_, rfl, iteF ?_⟩⟩
    have S10 := S9.same s10
    refine ⟨.ref a1, rfl, _, rfl, _, rfl, a1, ts, o, aw, mm, rfl, S10.fy, ha1, ha2, hm1, hm2, S10.tab, fun H11 e11 T11 => ⟨_, rfl, iteF ?_⟩⟩
    have S11 := S10.ext e11 T11
    refine ⟨.ref a1, rfl, .ref a1, _, rfl, .tup S11.fy.sq (RowsL.dp S11.fy.row), shR, _, rfl, rfl, _, rfl, iteNS rfl ?_⟩
    exact ⟨_, _, _, _, _, _, _, rfl, e2.trans S11.keep, S11.tab⟩
end
theorem all_mk {l : PySem.W.OpenLaw} {w : World} {K : PySem.W.Frag} {h : Heap} {mg : Str → Option Value} {fa f1 f2 f3 f4 f5 f6 f7 f8 f9 f10 f11 f12 f13 f14 f15 f16 f17 f18 f19 f20 f21 f22 f23 f24 f25 f26 f27 f28 f29 f30 f31 f32 f33 f34 f35 f36 f37 f38 : Addr} (X : K.In h) (G : h.Ns mainGlobals mg) (hfa : mg "law" = some (.ref fa))
    {od1 an1 od2 an2 od3 an3 od4 an4 od5 an5 od6 an6 od7 an7 od8 an8 od9 an9 od10 an10 od11 an11 od12 an12 od13 an13 od14 an14 od15 an15 od16 an16 od17 an17 od18 an18 od19 an19 od20 an20 od21 an21 od22 an22 od23 an23 od24 an24 od25 an25 od26 an26 od27 an27 od28 an28 od29 an29 od30 an30 od31 an31 od32 an32 od33 an33 od34 an34 od35 an35 od36 an36 od37 an37 od38 an38 : Option Addr} {sl1 sl2 sl3 sl4 sl5 sl6 sl7 sl8 sl9 sl10 sl11 sl12 sl13 sl14 sl15 sl16 sl17 sl18 sl19 sl20 sl21 sl22 sl23 sl24 sl25 sl26 sl27 sl28 sl29 sl30 sl31 sl32 sl33 sl34 sl35 sl36 sl37 sl38 : Array (Option Value)} {oc1 kV1 dc1 pm1 cd1 ct1 oc2 kV2 dc2 pm2 cd2 ct2 oc3 kV3 dc3 pm3 cd3 ct3 oc4 kV4 dc4 pm4 cd4 ct4 oc5 kV5 dc5 pm5 cd5 ct5 oc6 kV6 dc6 pm6 cd6 ct6 oc7 kV7 dc7 pm7 cd7 ct7 oc8 kV8 dc8 pm8 cd8 ct8 oc9 kV9 dc9 pm9 cd9 ct9 oc10 kV10 dc10 pm10 cd10 ct10 oc11 kV11 dc11 pm11 cd11 ct11 oc12 kV12 dc12 pm12 cd12 ct12 oc13 kV13 dc13 pm13 cd13 ct13 oc14 kV14 dc14 pm14 cd14 ct14 oc15 kV15 dc15 pm15 cd15 ct15 oc16 kV16 dc16 pm16 cd16 ct16 oc17 kV17 dc17 pm17 cd17 ct17 oc18 kV18 dc18 pm18 cd18 ct18 oc19 kV19 dc19 pm19 cd19 ct19 oc20 kV20 dc20 pm20 cd20 ct20 oc21 kV21 dc21 pm21 cd21 ct21 oc22 kV22 dc22 pm22 cd22 ct22 oc23 kV23 dc23 pm23 cd23 ct23 oc24 kV24 dc24 pm24 cd24 ct24 oc25 kV25 dc25 pm25 cd25 ct25 oc26 kV26 dc26 pm26 cd26 ct26 oc27 kV27 dc27 pm27 cd27 ct27 oc28 kV28 dc28 pm28 cd28 ct28 oc29 kV29 dc29 pm29 cd29 ct29 oc30 kV30 dc30 pm30 cd30 ct30 oc31 kV31 dc31 pm31 cd31 ct31 oc32 kV32 dc32 pm32 cd32 ct32 oc33 kV33 dc33 pm33 cd33 ct33 oc34 kV34 dc34 pm34 cd34 ct34 oc35 kV35 dc35 pm35 cd35 ct35 oc36 kV36 dc36 pm36 cd36 ct36 oc37 kV37 dc37 pm37 cd37 ct37 oc38 kV38 dc38 pm38 cd38 ct38 : Value}
    {CBase CNotP CTooM CTooS fi2 fi3 fi4 : Addr}
    {nm2 q2 : Str} {N2 : Addr} {bs2 : List Value} {sn2 : List Str} {sub2 : List Value} {ab2 : Bool} {col2 : Option Bool} {dd2 : Option Addr} {m0_2 m1_2 m2_2 m3_2 m5_2 : Option Value} {odi2 ani2 : Option Addr} {sli2 : Array (Option Value)} {oci2 kVi2 dci2 pmi2 cdi2 cti2 : Value}
    {nm3 q3 : Str} {N3 : Addr} {bs3 : List Value} {sn3 : List Str} {sub3 : List Value} {ab3 : Bool} {col3 : Option Bool} {dd3 : Option Addr} {m0_3 m1_3 m2_3 m3_3 m5_3 : Option Value} {odi3 ani3 : Option Addr} {sli3 : Array (Option Value)} {oci3 kVi3 dci3 pmi3 cdi3 cti3 : Value}
    {nm4 q4 : Str} {N4 : Addr} {bs4 : List Value} {sn4 : List Str} {sub4 : List Value} {ab4 : Bool} {col4 : Option Bool} {dd4 : Option Addr} {m0_4 m1_4 m2_4 m3_4 m5_4 : Option Value} {odi4 ani4 : Option Addr} {sli4 : Array (Option Value)} {oci4 kVi4 dci4 pmi4 cdi4 cti4 : Value}
    {qq : Program} {tcSbl tpSbl tcUneq tpUneq : Addr}
    {tk_MOST_LISTS : Tok}
    (a1 : PySem.W.nsIn K mainGlobals "is_plain_int" = some (some (.ref f1)))
    (l1 : K.lookup f1 = some ⟨oc1, od1, .func (PySem.W.fnOf "is_plain_int" "is_plain_int" (defArgs sPlain) (defBody sPlain) (defScope sPlain) .none kV1 dc1 pm1 an1 cd1 ct1), sl1⟩)
    (c1 : PySem.W.codeIn K cd1 "is_plain_int" = true)
    (k1 : PySem.W.keepIn K (.ref f1) = true)
    (a2 : PySem.W.nsIn K mainGlobals "binomial" = some (some (.ref f2)))
    (l2 : K.lookup f2 = some ⟨oc2, od2, .func (PySem.W.fnOf "binomial" "binomial" (defArgs sBin) (defBody sBin) (defScope sBin) .none kV2 dc2 pm2 an2 cd2 ct2), sl2⟩)
    (c2 : PySem.W.codeIn K cd2 "binomial" = true)
    (k2 : PySem.W.keepIn K (.ref f2) = true)
    (a3 : PySem.W.nsIn K mainGlobals "edge_divisor" = some (some (.ref f3)))
    (l3 : K.lookup f3 = some ⟨oc3, od3, .func (PySem.W.fnOf "edge_divisor" "edge_divisor" (defArgs sEdge) (defBody sEdge) (defScope sEdge) .none kV3 dc3 pm3 an3 cd3 ct3), sl3⟩)
    (c3 : PySem.W.codeIn K cd3 "edge_divisor" = true)
    (k3 : PySem.W.keepIn K (.ref f3) = true)
    (a4 : PySem.W.nsIn K mainGlobals "level_parts" = some (some (.ref f4)))
    (l4 : K.lookup f4 = some ⟨oc4, od4, .func (PySem.W.fnOf "level_parts" "level_parts" (defArgs sParts) (defBody sParts) (defScope sParts) .none kV4 dc4 pm4 an4 cd4 ct4), sl4⟩)
    (c4 : PySem.W.codeIn K cd4 "level_parts" = true)
    (k4 : PySem.W.keepIn K (.ref f4) = true)
    (a5 : PySem.W.nsIn K mainGlobals "is_possible" = some (some (.ref f5)))
    (l5 : K.lookup f5 = some ⟨oc5, od5, .func (PySem.W.fnOf "is_possible" "is_possible" (defArgs sPoss) (defBody sPoss) (defScope sPoss) .none kV5 dc5 pm5 an5 cd5 ct5), sl5⟩)
    (c5 : PySem.W.codeIn K cd5 "is_possible" = true)
    (k5 : PySem.W.keepIn K (.ref f5) = true)
    (a6 : PySem.W.nsIn K mainGlobals "reach_of" = some (some (.ref f6)))
    (l6 : K.lookup f6 = some ⟨oc6, od6, .func (PySem.W.fnOf "reach_of" "reach_of" (defArgs sReachOf) (defBody sReachOf) (defScope sReachOf) .none kV6 dc6 pm6 an6 cd6 ct6), sl6⟩)
    (c6 : PySem.W.codeIn K cd6 "reach_of" = true)
    (k6 : PySem.W.keepIn K (.ref f6) = true)
    (a7 : PySem.W.nsIn K mainGlobals "check_possible" = some (some (.ref f7)))
    (l7 : K.lookup f7 = some ⟨oc7, od7, .func (PySem.W.fnOf "check_possible" "check_possible" (defArgs sChkP) (defBody sChkP) (defScope sChkP) .none kV7 dc7 pm7 an7 cd7 ct7), sl7⟩)
    (c7 : PySem.W.codeIn K cd7 "check_possible" = true)
    (k7 : PySem.W.keepIn K (.ref f7) = true)
    (a8 : PySem.W.nsIn K mainGlobals "count_level" = some (some (.ref f8)))
    (l8 : K.lookup f8 = some ⟨oc8, od8, .func (PySem.W.fnOf "count_level" "count_level" (defArgs sCLevel) (defBody sCLevel) (defScope sCLevel) .none kV8 dc8 pm8 an8 cd8 ct8), sl8⟩)
    (c8 : PySem.W.codeIn K cd8 "count_level" = true)
    (k8 : PySem.W.keepIn K (.ref f8) = true)
    (a9 : PySem.W.nsIn K mainGlobals "level_numbers" = some (some (.ref f9)))
    (l9 : K.lookup f9 = some ⟨oc9, od9, .func (PySem.W.fnOf "level_numbers" "level_numbers" (defArgs sLevNums) (defBody sLevNums) (defScope sLevNums) .none kV9 dc9 pm9 an9 cd9 ct9), sl9⟩)
    (c9 : PySem.W.codeIn K cd9 "level_numbers" = true)
    (k9 : PySem.W.keepIn K (.ref f9) = true)
    (a10 : PySem.W.nsIn K mainGlobals "is_level" = some (some (.ref f10)))
    (l10 : K.lookup f10 = some ⟨oc10, od10, .func (PySem.W.fnOf "is_level" "is_level" (defArgs sIsLev) (defBody sIsLev) (defScope sIsLev) .none kV10 dc10 pm10 an10 cd10 ct10), sl10⟩)
    (c10 : PySem.W.codeIn K cd10 "is_level" = true)
    (k10 : PySem.W.keepIn K (.ref f10) = true)
    (a11 : PySem.W.nsIn K mainGlobals "even_reach" = some (some (.ref f11)))
    (l11 : K.lookup f11 = some ⟨oc11, od11, .func (PySem.W.fnOf "even_reach" "even_reach" (defArgs sReachE) (defBody sReachE) (defScope sReachE) .none kV11 dc11 pm11 an11 cd11 ct11), sl11⟩)
    (c11 : PySem.W.codeIn K cd11 "even_reach" = true)
    (k11 : PySem.W.keepIn K (.ref f11) = true)
    (a12 : PySem.W.nsIn K mainGlobals "is_set" = some (some (.ref f12)))
    (l12 : K.lookup f12 = some ⟨oc12, od12, .func (PySem.W.fnOf "is_set" "is_set" (defArgs sSet) (defBody sSet) (defScope sSet) .none kV12 dc12 pm12 an12 cd12 ct12), sl12⟩)
    (c12 : PySem.W.codeIn K cd12 "is_set" = true)
    (k12 : PySem.W.keepIn K (.ref f12) = true)
    (a13 : PySem.W.nsIn K mainGlobals "outside" = some (some (.ref f13)))
    (l13 : K.lookup f13 = some ⟨oc13, od13, .func (PySem.W.fnOf "outside" "outside" (defArgs sOut) (defBody sOut) (defScope sOut) .none kV13 dc13 pm13 an13 cd13 ct13), sl13⟩)
    (c13 : PySem.W.codeIn K cd13 "outside" = true)
    (k13 : PySem.W.keepIn K (.ref f13) = true)
    (a14 : PySem.W.nsIn K mainGlobals "joined" = some (some (.ref f14)))
    (l14 : K.lookup f14 = some ⟨oc14, od14, .func (PySem.W.fnOf "joined" "joined" (defArgs sJoined) (defBody sJoined) (defScope sJoined) .none kV14 dc14 pm14 an14 cd14 ct14), sl14⟩)
    (c14 : PySem.W.codeIn K cd14 "joined" = true)
    (k14 : PySem.W.keepIn K (.ref f14) = true)
    (a15 : PySem.W.nsIn K mainGlobals "sets_among" = some (some (.ref f15)))
    (l15 : K.lookup f15 = some ⟨oc15, od15, .func (PySem.W.fnOf "sets_among" "sets_among" (defArgs sAmong) (defBody sAmong) (defScope sAmong) .none kV15 dc15 pm15 an15 cd15 ct15), sl15⟩)
    (c15 : PySem.W.codeIn K cd15 "sets_among" = true)
    (k15 : PySem.W.keepIn K (.ref f15) = true)
    (a16 : PySem.W.nsIn K mainGlobals "level_widths" = some (some (.ref f16)))
    (l16 : K.lookup f16 = some ⟨oc16, od16, .func (PySem.W.fnOf "level_widths" "level_widths" (defArgs sWid) (defBody sWid) (defScope sWid) .none kV16 dc16 pm16 an16 cd16 ct16), sl16⟩)
    (c16 : PySem.W.codeIn K cd16 "level_widths" = true)
    (k16 : PySem.W.keepIn K (.ref f16) = true)
    (a17 : PySem.W.nsIn K mainGlobals "follow" = some (some (.ref f17)))
    (l17 : K.lookup f17 = some ⟨oc17, od17, .func (PySem.W.fnOf "follow" "follow" (defArgs sFollow) (defBody sFollow) (defScope sFollow) .none kV17 dc17 pm17 an17 cd17 ct17), sl17⟩)
    (c17 : PySem.W.codeIn K cd17 "follow" = true)
    (k17 : PySem.W.keepIn K (.ref f17) = true)
    (a18 : PySem.W.nsIn K mainGlobals "is_list" = some (some (.ref f18)))
    (l18 : K.lookup f18 = some ⟨oc18, od18, .func (PySem.W.fnOf "is_list" "is_list" (defArgs sIsL) (defBody sIsL) (defScope sIsL) .none kV18 dc18 pm18 an18 cd18 ct18), sl18⟩)
    (c18 : PySem.W.codeIn K cd18 "is_list" = true)
    (k18 : PySem.W.keepIn K (.ref f18) = true)
    (a19 : PySem.W.nsIn K mainGlobals "is_table" = some (some (.ref f19)))
    (l19 : K.lookup f19 = some ⟨oc19, od19, .func (PySem.W.fnOf "is_table" "is_table" (defArgs sIsTab) (defBody sIsTab) (defScope sIsTab) .none kV19 dc19 pm19 an19 cd19 ct19), sl19⟩)
    (c19 : PySem.W.codeIn K cd19 "is_table" = true)
    (k19 : PySem.W.keepIn K (.ref f19) = true)
    (a20 : PySem.W.nsIn K mainGlobals "standard_table" = some (some (.ref f20)))
    (l20 : K.lookup f20 = some ⟨oc20, od20, .func (PySem.W.fnOf "standard_table" "standard_table" (defArgs sStdT) (defBody sStdT) (defScope sStdT) .none kV20 dc20 pm20 an20 cd20 ct20), sl20⟩)
    (c20 : PySem.W.codeIn K cd20 "standard_table" = true)
    (k20 : PySem.W.keepIn K (.ref f20) = true)
    (a21 : PySem.W.nsIn K mainGlobals "holders" = some (some (.ref f21)))
    (l21 : K.lookup f21 = some ⟨oc21, od21, .func (PySem.W.fnOf "holders" "holders" (defArgs sHold) (defBody sHold) (defScope sHold) .none kV21 dc21 pm21 an21 cd21 ct21), sl21⟩)
    (c21 : PySem.W.codeIn K cd21 "holders" = true)
    (k21 : PySem.W.keepIn K (.ref f21) = true)
    (a22 : PySem.W.nsIn K mainGlobals "held_by_sets" = some (some (.ref f22)))
    (l22 : K.lookup f22 = some ⟨oc22, od22, .func (PySem.W.fnOf "held_by_sets" "held_by_sets" (defArgs sHelds) (defBody sHelds) (defScope sHelds) .none kV22 dc22 pm22 an22 cd22 ct22), sl22⟩)
    (c22 : PySem.W.codeIn K cd22 "held_by_sets" = true)
    (k22 : PySem.W.keepIn K (.ref f22) = true)
    (a23 : PySem.W.nsIn K mainGlobals "loads" = some (some (.ref f23)))
    (l23 : K.lookup f23 = some ⟨oc23, od23, .func (PySem.W.fnOf "loads" "loads" (defArgs sLoads) (defBody sLoads) (defScope sLoads) .none kV23 dc23 pm23 an23 cd23 ct23), sl23⟩)
    (c23 : PySem.W.codeIn K cd23 "loads" = true)
    (k23 : PySem.W.keepIn K (.ref f23) = true)
    (a24 : PySem.W.nsIn K mainGlobals "server_loads" = some (some (.ref f24)))
    (l24 : K.lookup f24 = some ⟨oc24, od24, .func (PySem.W.fnOf "server_loads" "server_loads" (defArgs sSLoads) (defBody sSLoads) (defScope sSLoads) .none kV24 dc24 pm24 an24 cd24 ct24), sl24⟩)
    (c24 : PySem.W.codeIn K cd24 "server_loads" = true)
    (k24 : PySem.W.keepIn K (.ref f24) = true)
    (a25 : PySem.W.nsIn K mainGlobals "check_reached" = some (some (.ref f25)))
    (l25 : K.lookup f25 = some ⟨oc25, od25, .func (PySem.W.fnOf "check_reached" "check_reached" (defArgs sChkR) (defBody sChkR) (defScope sChkR) .none kV25 dc25 pm25 an25 cd25 ct25), sl25⟩)
    (c25 : PySem.W.codeIn K cd25 "check_reached" = true)
    (k25 : PySem.W.keepIn K (.ref f25) = true)
    (a26 : PySem.W.nsIn K mainGlobals "first_uneven_level" = some (some (.ref f26)))
    (l26 : K.lookup f26 = some ⟨oc26, od26, .func (PySem.W.fnOf "first_uneven_level" "first_uneven_level" (defArgs sFULev) (defBody sFULev) (defScope sFULev) .none kV26 dc26 pm26 an26 cd26 ct26), sl26⟩)
    (c26 : PySem.W.codeIn K cd26 "first_uneven_level" = true)
    (k26 : PySem.W.keepIn K (.ref f26) = true)
    (a27 : PySem.W.nsIn K mainGlobals "is_even" = some (some (.ref f27)))
    (l27 : K.lookup f27 = some ⟨oc27, od27, .func (PySem.W.fnOf "is_even" "is_even" (defArgs sIsEven) (defBody sIsEven) (defScope sIsEven) .none kV27 dc27 pm27 an27 cd27 ct27), sl27⟩)
    (c27 : PySem.W.codeIn K cd27 "is_even" = true)
    (k27 : PySem.W.keepIn K (.ref f27) = true)
    (a28 : PySem.W.nsIn K mainGlobals "servers_by_level_number" = some (some (.ref f28)))
    (l28 : K.lookup f28 = some ⟨oc28, od28, .func (PySem.W.fnOf "servers_by_level_number" "servers_by_level_number" (defArgs sSbl) (defBody sSbl) (defScope sSbl) .none kV28 dc28 pm28 an28 cd28 ct28), sl28⟩)
    (c28 : PySem.W.codeIn K cd28 "servers_by_level_number" = true)
    (k28 : PySem.W.keepIn K (.ref f28) = true)
    (a29 : PySem.W.nsIn K mainGlobals "unequal_sets" = some (some (.ref f29)))
    (l29 : K.lookup f29 = some ⟨oc29, od29, .func (PySem.W.fnOf "unequal_sets" "unequal_sets" (defArgs sUneq) (defBody sUneq) (defScope sUneq) .none kV29 dc29 pm29 an29 cd29 ct29), sl29⟩)
    (c29 : PySem.W.codeIn K cd29 "unequal_sets" = true)
    (k29 : PySem.W.keepIn K (.ref f29) = true)
    (a30 : PySem.W.nsIn K mainGlobals "witness_at" = some (some (.ref f30)))
    (l30 : K.lookup f30 = some ⟨oc30, od30, .func (PySem.W.fnOf "witness_at" "witness_at" (defArgs sWitn) (defBody sWitn) (defScope sWitn) .none kV30 dc30 pm30 an30 cd30 ct30), sl30⟩)
    (c30 : PySem.W.codeIn K cd30 "witness_at" = true)
    (k30 : PySem.W.keepIn K (.ref f30) = true)
    (a31 : PySem.W.nsIn K mainGlobals "uneven" = some (some (.ref f31)))
    (l31 : K.lookup f31 = some ⟨oc31, od31, .func (PySem.W.fnOf "uneven" "uneven" (defArgs sUnev) (defBody sUnev) (defScope sUnev) .none kV31 dc31 pm31 an31 cd31 ct31), sl31⟩)
    (c31 : PySem.W.codeIn K cd31 "uneven" = true)
    (k31 : PySem.W.keepIn K (.ref f31) = true)
    (a32 : PySem.W.nsIn K mainGlobals "is_claim" = some (some (.ref f32)))
    (l32 : K.lookup f32 = some ⟨oc32, od32, .func (PySem.W.fnOf "is_claim" "is_claim" (defArgs sIsClaim) (defBody sIsClaim) (defScope sIsClaim) .none kV32 dc32 pm32 an32 cd32 ct32), sl32⟩)
    (c32 : PySem.W.codeIn K cd32 "is_claim" = true)
    (k32 : PySem.W.keepIn K (.ref f32) = true)
    (a33 : PySem.W.nsIn K mainGlobals "shows_uneven" = some (some (.ref f33)))
    (l33 : K.lookup f33 = some ⟨oc33, od33, .func (PySem.W.fnOf "shows_uneven" "shows_uneven" (defArgs sShowsU) (defBody sShowsU) (defScope sShowsU) .none kV33 dc33 pm33 an33 cd33 ct33), sl33⟩)
    (c33 : PySem.W.codeIn K cd33 "shows_uneven" = true)
    (k33 : PySem.W.keepIn K (.ref f33) = true)
    (a34 : PySem.W.nsIn K mainGlobals "_law_pot" = some (some (.ref f34)))
    (l34 : K.lookup f34 = some ⟨oc34, od34, .func (PySem.W.fnOf "_law_pot" "_law_pot" (defArgs sPot) (defBody sPot) (defScope sPot) .none kV34 dc34 pm34 an34 cd34 ct34), sl34⟩)
    (c34 : PySem.W.codeIn K cd34 "_law_pot" = true)
    (k34 : PySem.W.keepIn K (.ref f34) = true)
    (a35 : PySem.W.nsIn K mainGlobals "_law_take" = some (some (.ref f35)))
    (l35 : K.lookup f35 = some ⟨oc35, od35, .func (PySem.W.fnOf "_law_take" "_law_take" (defArgs sTake) (defBody sTake) (defScope sTake) .none kV35 dc35 pm35 an35 cd35 ct35), sl35⟩)
    (c35 : PySem.W.codeIn K cd35 "_law_take" = true)
    (k35 : PySem.W.keepIn K (.ref f35) = true)
    (a36 : PySem.W.nsIn K mainGlobals "_law_tables_right" = some (some (.ref f36)))
    (l36 : K.lookup f36 = some ⟨oc36, od36, .func (PySem.W.fnOf "_law_tables_right" "_law_tables_right" (defArgs sTr18) (defBody sTr18) (defScope sTr18) .none kV36 dc36 pm36 an36 cd36 ct36), sl36⟩)
    (c36 : PySem.W.codeIn K cd36 "_law_tables_right" = true)
    (k36 : PySem.W.keepIn K (.ref f36) = true)
    (a37 : PySem.W.nsIn K mainGlobals "_law_judged_right" = some (some (.ref f37)))
    (l37 : K.lookup f37 = some ⟨oc37, od37, .func (PySem.W.fnOf "_law_judged_right" "_law_judged_right" (defArgs sJr18) (defBody sJr18) (defScope sJr18) .none kV37 dc37 pm37 an37 cd37 ct37), sl37⟩)
    (c37 : PySem.W.codeIn K cd37 "_law_judged_right" = true)
    (k37 : PySem.W.keepIn K (.ref f37) = true)
    (a38 : PySem.W.nsIn K mainGlobals "law" = some (some (.ref f38)))
    (l38 : K.lookup f38 = some ⟨oc38, od38, .func (PySem.W.fnOf "law" "law" (defArgs sLaw) (defBody sLaw) (defScope sLaw) .none kV38 dc38 pm38 an38 cd38 ct38), sl38⟩)
    (c38 : PySem.W.codeIn K cd38 "law" = true)
    (k38 : PySem.W.keepIn K (.ref f38) = true)
    (ac1 : PySem.W.nsIn K mainGlobals "FailoverError" = some (some (.ref CBase)))
    (bsp : PySem.W.specialIn K (.ref CBase) "__getattribute__" = some (some (.builtin "type.__getattribute__")))
    (bty : PySem.W.typeIn K (.ref CBase) = some (.type "type"))
    (brd : PySem.W.readsIn K CBase (.type "type") = true)
    (bfc : PySem.W.findCls K (.ref CBase) (.type "type") "__init__" = some (.val (.builtin "ValueError.__init__")))
    (bex : PySem.W.subIn K (.ref CBase) (.type "BaseException") = some true)
    (bhd : PySem.W.hasDictIn K CBase = true)
    (ac2 : PySem.W.nsIn K mainGlobals "NotPossible" = some (some (.ref CNotP)))
    (e2_xL : K.lookup CNotP = some (excClassObj nm2 q2 CNotP N2 bs2 [.ref CBase, .type "ValueError", .type "Exception", .type "BaseException", .type "object"] true sn2 sub2 ab2 col2 dd2 m0_2 m1_2 m2_2 m3_2 m5_2 "ValueError.__new__"))
    (e2_sa : PySem.W.findIn K (.ref CNotP) "__setattr__" = some (some (.builtin "object.__setattr__")))
    (e2_ga : PySem.W.findIn K (.ref CNotP) "__getattribute__" = some (some (.builtin "BaseException.__getattribute__")))
    (e2_gg : PySem.W.findIn K (.ref CNotP) "__getattr__" = some none)
    (e2_nb : PySem.W.findIn K (.ref CNotP) "count" = some none)
    (e2_ai : PySem.W.findIn K (.ref CNotP) "__init__" = some (some (.ref fi2)))
    (e2_ti : PySem.W.typeIn K (.ref fi2) = some (.type "function"))
    (e2_li : K.lookup fi2 = some ⟨oci2, odi2, .func (PySem.W.fnOf "__init__" "NotPossible.__init__" (defArgs sNotP) (defBody sNotP) (defScope sNotP) .none kVi2 dci2 pmi2 ani2 cdi2 cti2), sli2⟩)
    (e2_ci : PySem.W.codeIn K cdi2 "NotPossible.__init__" = true)
    (e2_ki : PySem.W.keepIn K (.ref fi2) = true)
    (e2_kC : PySem.W.keepIn K (.ref CNotP) = true)
    (e2_eC : PySem.W.subIn K (.ref CNotP) (.type "BaseException") = some true)
    (e2_tC : PySem.W.typeIn K (.ref CNotP) = some (.type "type"))
    (e2_hC : PySem.W.hasDictIn K CNotP = true)
    (e2_cC : PySem.W.findIn K (.ref CNotP) "__class__" = some (some (.builtin "object.__class__")))
    (e2_gC : PySem.W.specialIn K (.builtin "object.__class__") "__get__" = some (some (.builtin "getset_descriptor.__get__")))
    (e2_kk : PySem.W.takesIn K (.builtin "object.__class__") = some true)
    (e2_mC : PySem.W.mroIn K CNotP (.type "object") = some true)
    (e2_sB : PySem.W.subIn K (.ref CNotP) (.ref CBase) = some true)
    (ac3 : PySem.W.nsIn K mainGlobals "TooMany" = some (some (.ref CTooM)))
    (e3_xL : K.lookup CTooM = some (excClassObj nm3 q3 CTooM N3 bs3 [.ref CBase, .type "ValueError", .type "Exception", .type "BaseException", .type "object"] true sn3 sub3 ab3 col3 dd3 m0_3 m1_3 m2_3 m3_3 m5_3 "ValueError.__new__"))
    (e3_sa : PySem.W.findIn K (.ref CTooM) "__setattr__" = some (some (.builtin "object.__setattr__")))
    (e3_ga : PySem.W.findIn K (.ref CTooM) "__getattribute__" = some (some (.builtin "BaseException.__getattribute__")))
    (e3_gg : PySem.W.findIn K (.ref CTooM) "__getattr__" = some none)
    (e3_nb : PySem.W.findIn K (.ref CTooM) "count" = some none)
    (e3_ai : PySem.W.findIn K (.ref CTooM) "__init__" = some (some (.ref fi3)))
    (e3_ti : PySem.W.typeIn K (.ref fi3) = some (.type "function"))
    (e3_li : K.lookup fi3 = some ⟨oci3, odi3, .func (PySem.W.fnOf "__init__" "TooMany.__init__" (defArgs sTooM) (defBody sTooM) (defScope sTooM) .none kVi3 dci3 pmi3 ani3 cdi3 cti3), sli3⟩)
    (e3_ci : PySem.W.codeIn K cdi3 "TooMany.__init__" = true)
    (e3_ki : PySem.W.keepIn K (.ref fi3) = true)
    (e3_kC : PySem.W.keepIn K (.ref CTooM) = true)
    (e3_eC : PySem.W.subIn K (.ref CTooM) (.type "BaseException") = some true)
    (e3_tC : PySem.W.typeIn K (.ref CTooM) = some (.type "type"))
    (e3_hC : PySem.W.hasDictIn K CTooM = true)
    (e3_cC : PySem.W.findIn K (.ref CTooM) "__class__" = some (some (.builtin "object.__class__")))
    (e3_gC : PySem.W.specialIn K (.builtin "object.__class__") "__get__" = some (some (.builtin "getset_descriptor.__get__")))
    (e3_kk : PySem.W.takesIn K (.builtin "object.__class__") = some true)
    (e3_mC : PySem.W.mroIn K CTooM (.type "object") = some true)
    (e3_sB : PySem.W.subIn K (.ref CTooM) (.ref CBase) = some true)
    (ac4 : PySem.W.nsIn K mainGlobals "TooShort" = some (some (.ref CTooS)))
    (e4_xL : K.lookup CTooS = some (excClassObj nm4 q4 CTooS N4 bs4 [.ref CBase, .type "ValueError", .type "Exception", .type "BaseException", .type "object"] true sn4 sub4 ab4 col4 dd4 m0_4 m1_4 m2_4 m3_4 m5_4 "ValueError.__new__"))
    (e4_sa : PySem.W.findIn K (.ref CTooS) "__setattr__" = some (some (.builtin "object.__setattr__")))
    (e4_ga : PySem.W.findIn K (.ref CTooS) "__getattribute__" = some (some (.builtin "BaseException.__getattribute__")))
    (e4_gg : PySem.W.findIn K (.ref CTooS) "__getattr__" = some none)
    (e4_nb : PySem.W.findIn K (.ref CTooS) "order" = some none)
    (e4_ai : PySem.W.findIn K (.ref CTooS) "__init__" = some (some (.ref fi4)))
    (e4_ti : PySem.W.typeIn K (.ref fi4) = some (.type "function"))
    (e4_li : K.lookup fi4 = some ⟨oci4, odi4, .func (PySem.W.fnOf "__init__" "TooShort.__init__" (defArgs sTooS) (defBody sTooS) (defScope sTooS) .none kVi4 dci4 pmi4 ani4 cdi4 cti4), sli4⟩)
    (e4_ci : PySem.W.codeIn K cdi4 "TooShort.__init__" = true)
    (e4_ki : PySem.W.keepIn K (.ref fi4) = true)
    (e4_kC : PySem.W.keepIn K (.ref CTooS) = true)
    (e4_eC : PySem.W.subIn K (.ref CTooS) (.type "BaseException") = some true)
    (e4_tC : PySem.W.typeIn K (.ref CTooS) = some (.type "type"))
    (e4_hC : PySem.W.hasDictIn K CTooS = true)
    (e4_cC : PySem.W.findIn K (.ref CTooS) "__class__" = some (some (.builtin "object.__class__")))
    (e4_gC : PySem.W.specialIn K (.builtin "object.__class__") "__get__" = some (some (.builtin "getset_descriptor.__get__")))
    (e4_kk : PySem.W.takesIn K (.builtin "object.__class__") = some true)
    (e4_mC : PySem.W.mroIn K CTooS (.type "object") = some true)
    (e4_sB : PySem.W.subIn K (.ref CTooS) (.ref CBase) = some true)
    (gl_MOST_LISTS : PySem.W.nsIn K mainGlobals "MOST_LISTS" = some (some (.int 5000 tk_MOST_LISTS)))
    (z1 : PySem.W.nsIn K mainGlobals "ValueError" = some none)
    (z2 : PySem.W.nsIn K mainGlobals "abs" = some none)
    (z3 : PySem.W.nsIn K mainGlobals "bool" = some none)
    (z4 : PySem.W.nsIn K mainGlobals "int" = some none)
    (z5 : PySem.W.nsIn K mainGlobals "isinstance" = some none)
    (z6 : PySem.W.nsIn K mainGlobals "len" = some none)
    (z7 : PySem.W.nsIn K mainGlobals "list" = some none)
    (z8 : PySem.W.nsIn K mainGlobals "max" = some none)
    (z9 : PySem.W.nsIn K mainGlobals "min" = some none)
    (z10 : PySem.W.nsIn K mainGlobals "range" = some none)
    (z11 : PySem.W.nsIn K mainGlobals "repr" = some none)
    (z12 : PySem.W.nsIn K mainGlobals "set" = some none)
    (z13 : PySem.W.nsIn K mainGlobals "sorted" = some none)
    (z14 : PySem.W.nsIn K mainGlobals "tuple" = some none)
    (tbSbl : PySem.W.tabIn K "servers_by_level_number" = some (tcSbl, tpSbl))
    (tnSbl : K.lookup tpSbl = none)
    (trSbl : ((recsOf qq).find? fun e => e.name == ("servers_by_level_number" : Str)).isSome = true)
    (tbUneq : PySem.W.tabIn K "unequal_sets" = some (tcUneq, tpUneq))
    (tnUneq : K.lookup tpUneq = none)
    (trUneq : ((recsOf qq).find? fun e => e.name == ("unequal_sets" : Str)).isSome = true)
    (teSbl_Uneq : tpSbl ≠ tpUneq)
    : LawT qq l w K 12 63 "_law_script" mg fa := by
  have e := hfa.symm.trans (PySem.W.mg_of X G a38)
  cases e
  have F1 := fun_mk (st := sPlain) l1 c1 k1
  have b1 := F1.binds (ps := ["thing"]) fun _ _ _ _ _ _ us hl => match us, hl with | [_], _ => rfl
  have F2 := fun_mk (st := sBin) l2 c2 k2
  have b2 := F2.binds (ps := ["n", "k"]) fun _ _ _ _ _ _ us hl => match us, hl with | [_, _], _ => rfl
  have F3 := fun_mk (st := sEdge) l3 c3 k3
  have b3 := F3.binds (ps := ["n", "size"]) fun _ _ _ _ _ _ us hl => match us, hl with | [_, _], _ => rfl
  have F4 := fun_mk (st := sParts) l4 c4 k4
  have b4 := F4.binds (ps := ["n", "depth"]) fun _ _ _ _ _ _ us hl => match us, hl with | [_, _], _ => rfl
  have F5 := fun_mk (st := sPoss) l5 c5 k5
  have b5 := F5.binds (ps := ["n", "depth", "count"]) fun _ _ _ _ _ _ us hl => match us, hl with | [_, _, _], _ => rfl
  have F6 := fun_mk (st := sReachOf) l6 c6 k6
  have b6 := F6.binds (ps := ["n", "failures", "factor"]) fun _ _ _ _ _ _ us hl => match us, hl with | [_, _, _], _ => rfl
  have F7 := fun_mk (st := sChkP) l7 c7 k7
  have b7 := F7.binds (ps := ["n", "depth", "count"]) fun _ _ _ _ _ _ us hl => match us, hl with | [_, _, _], _ => rfl
  have F8 := fun_mk (st := sCLevel) l8 c8 k8
  have b8 := F8.binds (ps := ["table", "size"]) fun _ _ _ _ _ _ us hl => match us, hl with | [_, _], _ => rfl
  have F9 := fun_mk (st := sLevNums) l9 c9 k9
  have b9 := F9.binds (ps := ["n", "table", "size"]) fun _ _ _ _ _ _ us hl => match us, hl with | [_, _, _], _ => rfl
  have F10 := fun_mk (st := sIsLev) l10 c10 k10
  have b10 := F10.binds (ps := ["n", "table", "size"]) fun _ _ _ _ _ _ us hl => match us, hl with | [_, _, _], _ => rfl
  have F11 := fun_mk (st := sReachE) l11 c11 k11
  have b11 := F11.binds (ps := ["n", "table"]) fun _ _ _ _ _ _ us hl => match us, hl with | [_, _], _ => rfl
  have F12 := fun_mk (st := sSet) l12 c12 k12
  have b12 := F12.binds (ps := ["n", "thing"]) fun _ _ _ _ _ _ us hl => match us, hl with | [_, _], _ => rfl
  have F13 := fun_mk (st := sOut) l13 c13 k13
  have b13 := F13.binds (ps := ["n", "members"]) fun _ _ _ _ _ _ us hl => match us, hl with | [_, _], _ => rfl
  have F14 := fun_mk (st := sJoined) l14 c14 k14
  have b14 := F14.binds (ps := ["members", "server"]) fun _ _ _ _ _ _ us hl => match us, hl with | [_, _], _ => rfl
  have F15 := fun_mk (st := sAmong) l15 c15 k15
  have b15 := F15.binds (ps := ["servers", "size"]) fun _ _ _ _ _ _ us hl => match us, hl with | [_, _], _ => rfl
  have F16 := fun_mk (st := sWid) l16 c16 k16
  have b16 := F16.binds (ps := ["n", "depth", "count"]) fun _ _ _ _ _ _ us hl => match us, hl with | [_, _, _], _ => rfl
  have F17 := fun_mk (st := sFollow) l17 c17 k17
  have b17 := F17.binds (ps := ["widths", "servers", "rest"]) fun _ _ _ _ _ _ us hl => match us, hl with | [_, _, _], _ => rfl
  have F18 := fun_mk (st := sIsL) l18 c18 k18
  have b18 := F18.binds (ps := ["n", "depth", "thing"]) fun _ _ _ _ _ _ us hl => match us, hl with | [_, _, _], _ => rfl
  have F19 := fun_mk (st := sIsTab) l19 c19 k19
  have b19 := F19.binds (ps := ["n", "depth", "thing"]) fun _ _ _ _ _ _ us hl => match us, hl with | [_, _, _], _ => rfl
  have F20 := fun_mk (st := sStdT) l20 c20 k20
  have b20 := F20.binds (ps := ["n", "depth", "count"]) fun _ _ _ _ _ _ us hl => match us, hl with | [_, _, _], _ => rfl
  have F21 := fun_mk (st := sHold) l21 c21 k21
  have b21 := F21.binds (ps := ["order", "live", "factor"]) fun _ _ _ _ _ _ us hl => match us, hl with | [_, _, _], _ => rfl
  have F22 := fun_mk (st := sHelds) l22 c22 k22
  have b22 := F22.binds (ps := ["table", "live", "factor"]) fun _ _ _ _ _ _ us hl => match us, hl with | [_, _, _], _ => rfl
  have F23 := fun_mk (st := sLoads) l23 c23 k23
  have b23 := F23.binds (ps := ["n", "table", "live", "factor"]) fun _ _ _ _ _ _ us hl => match us, hl with | [_, _, _, _], _ => rfl
  have F24 := fun_mk (st := sSLoads) l24 c24 k24
  have b24 := F24.binds (ps := ["n", "table", "live", "factor"]) fun _ _ _ _ _ _ us hl => match us, hl with | [_, _, _, _], _ => rfl
  have F25 := fun_mk (st := sChkR) l25 c25 k25
  have b25 := F25.binds (ps := ["n", "table", "failures", "factor"]) fun _ _ _ _ _ _ us hl => match us, hl with | [_, _, _, _], _ => rfl
  have F26 := fun_mk (st := sFULev) l26 c26 k26
  have b26 := F26.binds (ps := ["n", "table", "failures", "factor"]) fun _ _ _ _ _ _ us hl => match us, hl with | [_, _, _, _], _ => rfl
  have F27 := fun_mk (st := sIsEven) l27 c27 k27
  have b27 := F27.binds (ps := ["n", "table", "failures", "factor"]) fun _ _ _ _ _ _ us hl => match us, hl with | [_, _, _, _], _ => rfl
  have F28 := fun_mk (st := sSbl) l28 c28 k28
  have b28 := F28.binds (ps := ["table", "size"]) fun _ _ _ _ _ _ us hl => match us, hl with | [_, _], _ => rfl
  have F29 := fun_mk (st := sUneq) l29 c29 k29
  have b29 := F29.binds (ps := ["n", "table", "live", "size"]) fun _ _ _ _ _ _ us hl => match us, hl with | [_, _, _, _], _ => rfl
  have F30 := fun_mk (st := sWitn) l30 c30 k30
  have b30 := F30.binds (ps := ["n", "table", "size", "factor"]) fun _ _ _ _ _ _ us hl => match us, hl with | [_, _, _, _], _ => rfl
  have F31 := fun_mk (st := sUnev) l31 c31 k31
  have b31 := F31.binds (ps := ["n", "table", "failures", "factor"]) fun _ _ _ _ _ _ us hl => match us, hl with | [_, _, _, _], _ => rfl
  have F32 := fun_mk (st := sIsClaim) l32 c32 k32
  have b32 := F32.binds (ps := ["n", "failures", "factor", "thing"]) fun _ _ _ _ _ _ us hl => match us, hl with | [_, _, _, _], _ => rfl
  have F33 := fun_mk (st := sShowsU) l33 c33 k33
  have b33 := F33.binds (ps := ["n", "table", "failures", "factor", "thing"]) fun _ _ _ _ _ _ us hl => match us, hl with | [_, _, _, _, _], _ => rfl
  have F34 := fun_mk (st := sPot) l34 c34 k34
  have b34 := F34.binds (ps := ["_law_script", "_law_k"]) fun _ _ _ _ _ _ us hl => match us, hl with | [_, _], _ => rfl
  have F35 := fun_mk (st := sTake) l35 c35 k35
  have b35 := F35.binds (ps := ["_law_pot_here", "_law_most"]) fun _ _ _ _ _ _ us hl => match us, hl with | [_, _], _ => rfl
  have F36 := fun_mk (st := sTr18) l36 c36 k36
  have b36 := F36.binds (ps := ["_law_rows", "_law_some", "_law_many"]) fun _ _ _ _ _ _ us hl => match us, hl with | [_, _, _], _ => rfl
  have F37 := fun_mk (st := sJr18) l37 c37 k37
  have b37 := F37.binds (ps := ["_law_rows", "_law_away", "_law_many"]) fun _ _ _ _ _ _ us hl => match us, hl with | [_, _, _], _ => rfl
  have F38 := fun_mk (st := sLaw) l38 c38 k38
  have kb1 := Fun_kb (ps := ["n", "depth", "thing"]) (ks := ["thing", "depth", "n"]) [2, 1, 0] 3 F19 (by decide) fun _ _ _ _ _ _ ws hl => match ws, hl with | [_, _, _], _ => rfl
  have kb2 := Fun_kb (ps := ["n", "depth", "count"]) (ks := ["count", "depth", "n"]) [2, 1, 0] 3 F20 (by decide) fun _ _ _ _ _ _ ws hl => match ws, hl with | [_, _, _], _ => rfl
  have kb3 := Fun_kb (ps := ["order", "live", "factor"]) (ks := ["factor", "live", "order"]) [2, 1, 0] 3 F21 (by decide) fun _ _ _ _ _ _ ws hl => match ws, hl with | [_, _, _], _ => rfl
  have kb4 := Fun_kb (ps := ["n", "table", "live", "factor"]) (ks := ["factor", "live", "table", "n"]) [3, 2, 1, 0] 4 F23 (by decide) fun _ _ _ _ _ _ ws hl => match ws, hl with | [_, _, _, _], _ => rfl
  have kb5 := Fun_kb (ps := ["n", "table", "live", "factor"]) (ks := ["factor", "live", "table", "n"]) [3, 2, 1, 0] 4 F24 (by decide) fun _ _ _ _ _ _ ws hl => match ws, hl with | [_, _, _, _], _ => rfl
  have kb6 := Fun_kb (ps := ["n", "table", "failures", "factor"]) (ks := ["factor", "failures", "table", "n"]) [3, 2, 1, 0] 4 F27 (by decide) fun _ _ _ _ _ _ ws hl => match ws, hl with | [_, _, _, _], _ => rfl
  have kb7 := Fun_kb (ps := ["n", "table", "failures", "factor"]) (ks := ["factor", "failures", "table", "n"]) [3, 2, 1, 0] 4 F31 (by decide) fun _ _ _ _ _ _ ws hl => match ws, hl with | [_, _, _, _], _ => rfl
  have kb8 := Fun_kb (ps := ["n", "table", "failures", "factor", "thing"]) (ks := ["thing", "factor", "failures", "table", "n"]) [4, 3, 2, 1, 0] 5 F33 (by decide) fun _ _ _ _ _ _ ws hl => match ws, hl with | [_, _, _, _, _], _ => rfl
  have kb9 := Fun_kb (ps := ["n", "table"]) (ks := ["table", "n"]) [1, 0] 2 F11 (by decide) fun _ _ _ _ _ _ ws hl => match ws, hl with | [_, _], _ => rfl
  have kb10 := Fun_kb (ps := ["n", "table", "size"]) (ks := ["size", "table", "n"]) [2, 1, 0] 3 F9 (by decide) fun _ _ _ _ _ _ ws hl => match ws, hl with | [_, _, _], _ => rfl
  have kb11 := Fun_kb (ps := ["n", "table", "size"]) (ks := ["size", "table", "n"]) [2, 1, 0] 3 F10 (by decide) fun _ _ _ _ _ _ ws hl => match ws, hl with | [_, _, _], _ => rfl
  have FI2 := fun_mk (st := sNotP) e2_li e2_ci e2_ki
  have bI2 := FI2.binds (ps := ["self", "count"]) fun _ _ _ _ _ _ us hl => match us, hl with | [_, _], _ => rfl
  have ER2 : ErrT K CNotP fi2 "count" CBase := ⟨⟨⟨nm2, q2, N2, bs2, _, sn2, sub2, ab2, col2, dd2, m0_2, m1_2, m2_2, m3_2, m5_2, e2_xL, by first | rfl | decide +kernel⟩, e2_sa, e2_eC, e2_tC, e2_kC⟩, ⟨e2_ga, e2_gg, e2_eC, e2_hC⟩, ⟨e2_ga, e2_gg, e2_eC, e2_hC, e2_cC, e2_gC, e2_kk, e2_mC⟩, e2_nb, e2_ai, e2_ti, PySem.W.exm_ref bex bhd bty e2_sB⟩
  have FI3 := fun_mk (st := sTooM) e3_li e3_ci e3_ki
  have bI3 := FI3.binds (ps := ["self", "count"]) fun _ _ _ _ _ _ us hl => match us, hl with | [_, _], _ => rfl
  have ER3 : ErrT K CTooM fi3 "count" CBase := ⟨⟨⟨nm3, q3, N3, bs3, _, sn3, sub3, ab3, col3, dd3, m0_3, m1_3, m2_3, m3_3, m5_3, e3_xL, by first | rfl | decide +kernel⟩, e3_sa, e3_eC, e3_tC, e3_kC⟩, ⟨e3_ga, e3_gg, e3_eC, e3_hC⟩, ⟨e3_ga, e3_gg, e3_eC, e3_hC, e3_cC, e3_gC, e3_kk, e3_mC⟩, e3_nb, e3_ai, e3_ti, PySem.W.exm_ref bex bhd bty e3_sB⟩
  have FI4 := fun_mk (st := sTooS) e4_li e4_ci e4_ki
  have bI4 := FI4.binds (ps := ["self", "order"]) fun _ _ _ _ _ _ us hl => match us, hl with | [_, _], _ => rfl
  have ER4 : ErrT K CTooS fi4 "order" CBase := ⟨⟨⟨nm4, q4, N4, bs4, _, sn4, sub4, ab4, col4, dd4, m0_4, m1_4, m2_4, m3_4, m5_4, e4_xL, by first | rfl | decide +kernel⟩, e4_sa, e4_eC, e4_tC, e4_kC⟩, ⟨e4_ga, e4_gg, e4_eC, e4_hC⟩, ⟨e4_ga, e4_gg, e4_eC, e4_hC, e4_cC, e4_gC, e4_kk, e4_mC⟩, e4_nb, e4_ai, e4_ti, PySem.W.exm_ref bex bhd bty e4_sB⟩
  let T : Txt K mg := ⟨f1, _, F1, b1, PySem.W.mg_of X G a1, f2, _, F2, b2, PySem.W.mg_of X G a2, f3, _, F3, b3, PySem.W.mg_of X G a3, f4, _, F4, b4, PySem.W.mg_of X G a4, f5, _, F5, b5, PySem.W.mg_of X G a5, f6, _, F6, b6, PySem.W.mg_of X G a6, f7, _, F7, b7, PySem.W.mg_of X G a7, f8, _, F8, b8, PySem.W.mg_of X G a8, f9, _, F9, b9, PySem.W.mg_of X G a9, f10, _, F10, b10, PySem.W.mg_of X G a10, f11, _, F11, b11, PySem.W.mg_of X G a11, f12, _, F12, b12, PySem.W.mg_of X G a12, f13, _, F13, b13, PySem.W.mg_of X G a13, f14, _, F14, b14, PySem.W.mg_of X G a14, f15, _, F15, b15, PySem.W.mg_of X G a15, f16, _, F16, b16, PySem.W.mg_of X G a16, f17, _, F17, b17, PySem.W.mg_of X G a17, f18, _, F18, b18, PySem.W.mg_of X G a18, f19, _, F19, b19, PySem.W.mg_of X G a19, f20, _, F20, b20, PySem.W.mg_of X G a20, f21, _, F21, b21, PySem.W.mg_of X G a21, f22, _, F22, b22, PySem.W.mg_of X G a22, f23, _, F23, b23, PySem.W.mg_of X G a23, f24, _, F24, b24, PySem.W.mg_of X G a24, f25, _, F25, b25, PySem.W.mg_of X G a25, f26, _, F26, b26, PySem.W.mg_of X G a26, f27, _, F27, b27, PySem.W.mg_of X G a27, f28, _, F28, b28, PySem.W.mg_of X G a28, f29, _, F29, b29, PySem.W.mg_of X G a29, f30, _, F30, b30, PySem.W.mg_of X G a30, f31, _, F31, b31, PySem.W.mg_of X G a31, f32, _, F32, b32, PySem.W.mg_of X G a32, f33, _, F33, b33, PySem.W.mg_of X G a33, f34, _, F34, b34, PySem.W.mg_of X G a34, f35, _, F35, b35, PySem.W.mg_of X G a35, f36, _, F36, b36, PySem.W.mg_of X G a36, f37, _, F37, b37, PySem.W.mg_of X G a37, kb1, kb2, kb3, kb4, kb5, kb6, kb7, kb8, kb9, kb10, kb11, CBase, PySem.W.mg_of X G ac1, ⟨bsp, bty, brd, bfc⟩, CNotP, PySem.W.mg_of X G ac2, fi2, _, FI2, bI2, ER2, CTooM, PySem.W.mg_of X G ac3, fi3, _, FI3, bI3, ER3, CTooS, PySem.W.mg_of X G ac4, fi4, _, FI4, bI4, ER4, tk_MOST_LISTS, PySem.W.mg_of X G gl_MOST_LISTS, PySem.W.mg_none_of X G z1, PySem.W.mg_none_of X G z2, PySem.W.mg_none_of X G z3, PySem.W.mg_none_of X G z4, PySem.W.mg_none_of X G z5, PySem.W.mg_none_of X G z6, PySem.W.mg_none_of X G z7, PySem.W.mg_none_of X G z8, PySem.W.mg_none_of X G z9, PySem.W.mg_none_of X G z10, PySem.W.mg_none_of X G z11, PySem.W.mg_none_of X G z12, PySem.W.mg_none_of X G z13, PySem.W.mg_none_of X G z14, tcSbl, tpSbl, codeOf_tab a28 tbSbl, tcUneq, tpUneq, codeOf_tab a29 tbUneq⟩
  refine ⟨PySem.W.fnOf "law" "law" (defArgs sLaw) (defBody sLaw) (defScope sLaw) .none kV38 dc38 pm38 an38 cd38 ct38, [("servers_by_level_number", tcSbl, tpSbl), ("unequal_sets", tcUneq, tpUneq)], spLaw K (tabsOf T), ?_, fun s v => .of_eq rfl, fun H a ns hl hT hS => ⟨a, ns, rfl, hS, hl, ?_, fun _ => rfl⟩, fun base _ _ hB => ok_law F38 T (trivial) ⟨hB ("servers_by_level_number", tcSbl, tpSbl) (by simp), hB ("unequal_sets", tcUneq, tpUneq) (by simp), teSbl_Uneq⟩⟩
  · intro p hp
    simp only [List.mem_cons, List.not_mem_nil, or_false] at hp
    rcases hp with rfl | rfl
    · exact ⟨tbSbl, tnSbl, trSbl⟩
    · exact ⟨tbUneq, tnUneq, trUneq⟩
  · intro p hp
    unfold tabsOf at hp
    simp only [List.mem_cons, List.not_mem_nil, or_false] at hp
    rcases hp with rfl | rfl
    · exact NdefX.TabN.nil (hT ("servers_by_level_number", tcSbl, tpSbl) (by simp))
    · exact NdefX.TabN.nil (hT ("unequal_sets", tcUneq, tpUneq) (by simp))
end Ef
open PySem PySem.W PyProof.Rows
set_option maxRecDepth 100000 in
set_option maxHeartbeats 0 in
theorem PySem.Challenge.cw_evenfailover_k18_tables_and_judging_by_k_holds : PySem.Challenge.rw_evenfailover_k18_tables_and_judging_by_k.Holds := by
  w_on; o_law; k_head; (case hw => w_witness2)
  k_fill
  refine Ef.lawGT (l := PySem.Challenge.rw_evenfailover_k18_tables_and_judging_by_k) (n := 63) (k := 12) (x := "_law_script") rfl (by decide) rfl ⟨rfl, by decide, by decide⟩ (fun w h Y => PySem.W.km_in_of Y) ?F
  case F =>
    intro w mg fa h KX G hmg
    refine' Ef.all_mk KX G hmg ?a1 ?l1 ?c1 ?k1 ?a2 ?l2 ?c2 ?k2 ?a3 ?l3 ?c3 ?k3 ?a4 ?l4 ?c4 ?k4 ?a5 ?l5 ?c5 ?k5 ?a6 ?l6 ?c6 ?k6 ?a7 ?l7 ?c7 ?k7 ?a8 ?l8 ?c8 ?k8 ?a9 ?l9 ?c9 ?k9 ?a10 ?l10 ?c10 ?k10 ?a11 ?l11 ?c11 ?k11 ?a12 ?l12 ?c12 ?k12 ?a13 ?l13 ?c13 ?k13 ?a14 ?l14 ?c14 ?k14 ?a15 ?l15 ?c15 ?k15 ?a16 ?l16 ?c16 ?k16 ?a17 ?l17 ?c17 ?k17 ?a18 ?l18 ?c18 ?k18 ?a19 ?l19 ?c19 ?k19 ?a20 ?l20 ?c20 ?k20 ?a21 ?l21 ?c21 ?k21 ?a22 ?l22 ?c22 ?k22 ?a23 ?l23 ?c23 ?k23 ?a24 ?l24 ?c24 ?k24 ?a25 ?l25 ?c25 ?k25 ?a26 ?l26 ?c26 ?k26 ?a27 ?l27 ?c27 ?k27 ?a28 ?l28 ?c28 ?k28 ?a29 ?l29 ?c29 ?k29 ?a30 ?l30 ?c30 ?k30 ?a31 ?l31 ?c31 ?k31 ?a32 ?l32 ?c32 ?k32 ?a33 ?l33 ?c33 ?k33 ?a34 ?l34 ?c34 ?k34 ?a35 ?l35 ?c35 ?k35 ?a36 ?l36 ?c36 ?k36 ?a37 ?l37 ?c37 ?k37 ?a38 ?l38 ?c38 ?k38 ?ac1 ?bsp ?bty ?brd ?bfc ?bex ?bhd ?ac2 ?e2_xL ?e2_sa ?e2_ga ?e2_gg ?e2_nb ?e2_ai ?e2_ti ?e2_li ?e2_ci ?e2_ki ?e2_kC ?e2_eC ?e2_tC ?e2_hC ?e2_cC ?e2_gC ?e2_kk ?e2_mC ?e2_sB ?ac3 ?e3_xL ?e3_sa ?e3_ga ?e3_gg ?e3_nb ?e3_ai ?e3_ti ?e3_li ?e3_ci ?e3_ki ?e3_kC ?e3_eC ?e3_tC ?e3_hC ?e3_cC ?e3_gC ?e3_kk ?e3_mC ?e3_sB ?ac4 ?e4_xL ?e4_sa ?e4_ga ?e4_gg ?e4_nb ?e4_ai ?e4_ti ?e4_li ?e4_ci ?e4_ki ?e4_kC ?e4_eC ?e4_tC ?e4_hC ?e4_cC ?e4_gC ?e4_kk ?e4_mC ?e4_sB ?gl_MOST_LISTS ?z1 ?z2 ?z3 ?z4 ?z5 ?z6 ?z7 ?z8 ?z9 ?z10 ?z11 ?z12 ?z13 ?z14 ?tbSbl ?tnSbl ?trSbl ?tbUneq ?tnUneq ?trUneq ?teSbl_Uneq
    (case a1 => k_is)
    (case l1 => k_is)
    (case c1 => k_is)
    (case k1 => k_is)
    (case a2 => k_is)
    (case l2 => k_is)
    (case c2 => k_is)
    (case k2 => k_is)
    (case a3 => k_is)
    (case l3 => k_is)
    (case c3 => k_is)
    (case k3 => k_is)
    (case a4 => k_is)
    (case l4 => k_is)
    (case c4 => k_is)
    (case k4 => k_is)
    (case a5 => k_is)
    (case l5 => k_is)
    (case c5 => k_is)
    (case k5 => k_is)
    (case a6 => k_is)
    (case l6 => k_is)
    (case c6 => k_is)
    (case k6 => k_is)
    (case a7 => k_is)
    (case l7 => k_is)
    (case c7 => k_is)
    (case k7 => k_is)
    (case a8 => k_is)
    (case l8 => k_is)
    (case c8 => k_is)
    (case k8 => k_is)
    (case a9 => k_is)
    (case l9 => k_is)
    (case c9 => k_is)
    (case k9 => k_is)
    (case a10 => k_is)
    (case l10 => k_is)
    (case c10 => k_is)
    (case k10 => k_is)
    (case a11 => k_is)
    (case l11 => k_is)
    (case c11 => k_is)
    (case k11 => k_is)
    (case a12 => k_is)
    (case l12 => k_is)
    (case c12 => k_is)
    (case k12 => k_is)
    (case a13 => k_is)
    (case l13 => k_is)
    (case c13 => k_is)
    (case k13 => k_is)
    (case a14 => k_is)
    (case l14 => k_is)
    (case c14 => k_is)
    (case k14 => k_is)
    (case a15 => k_is)
    (case l15 => k_is)
    (case c15 => k_is)
    (case k15 => k_is)
    (case a16 => k_is)
    (case l16 => k_is)
    (case c16 => k_is)
    (case k16 => k_is)
    (case a17 => k_is)
    (case l17 => k_is)
    (case c17 => k_is)
    (case k17 => k_is)
    (case a18 => k_is)
    (case l18 => k_is)
    (case c18 => k_is)
    (case k18 => k_is)
    (case a19 => k_is)
    (case l19 => k_is)
    (case c19 => k_is)
    (case k19 => k_is)
    (case a20 => k_is)
    (case l20 => k_is)
    (case c20 => k_is)
    (case k20 => k_is)
    (case a21 => k_is)
    (case l21 => k_is)
    (case c21 => k_is)
    (case k21 => k_is)
    (case a22 => k_is)
    (case l22 => k_is)
    (case c22 => k_is)
    (case k22 => k_is)
    (case a23 => k_is)
    (case l23 => k_is)
    (case c23 => k_is)
    (case k23 => k_is)
    (case a24 => k_is)
    (case l24 => k_is)
    (case c24 => k_is)
    (case k24 => k_is)
    (case a25 => k_is)
    (case l25 => k_is)
    (case c25 => k_is)
    (case k25 => k_is)
    (case a26 => k_is)
    (case l26 => k_is)
    (case c26 => k_is)
    (case k26 => k_is)
    (case a27 => k_is)
    (case l27 => k_is)
    (case c27 => k_is)
    (case k27 => k_is)
    (case a28 => k_is)
    (case l28 => k_is)
    (case c28 => k_is)
    (case k28 => k_is)
    (case a29 => k_is)
    (case l29 => k_is)
    (case c29 => k_is)
    (case k29 => k_is)
    (case a30 => k_is)
    (case l30 => k_is)
    (case c30 => k_is)
    (case k30 => k_is)
    (case a31 => k_is)
    (case l31 => k_is)
    (case c31 => k_is)
    (case k31 => k_is)
    (case a32 => k_is)
    (case l32 => k_is)
    (case c32 => k_is)
    (case k32 => k_is)
    (case a33 => k_is)
    (case l33 => k_is)
    (case c33 => k_is)
    (case k33 => k_is)
    (case a34 => k_is)
    (case l34 => k_is)
    (case c34 => k_is)
    (case k34 => k_is)
    (case a35 => k_is)
    (case l35 => k_is)
    (case c35 => k_is)
    (case k35 => k_is)
    (case a36 => k_is)
    (case l36 => k_is)
    (case c36 => k_is)
    (case k36 => k_is)
    (case a37 => k_is)
    (case l37 => k_is)
    (case c37 => k_is)
    (case k37 => k_is)
    (case a38 => k_is)
    (case l38 => k_is)
    (case c38 => k_is)
    (case k38 => k_is)
    (case ac1 => k_is)
    (case bsp => k_is)
    (case bty => k_is)
    (case brd => k_is)
    (case bfc => k_is)
    (case bex => k_is)
    (case bhd => k_is)
    (case ac2 => k_is)
    (case e2_xL => k_is)
    (case e2_sa => k_is)
    (case e2_ga => k_is)
    (case e2_gg => k_is)
    (case e2_nb => k_is)
    (case e2_ai => k_is)
    (case e2_ti => k_is)
    (case e2_li => k_is)
    (case e2_ci => k_is)
    (case e2_ki => k_is)
    (case e2_kC => k_is)
    (case e2_eC => k_is)
    (case e2_tC => k_is)
    (case e2_hC => k_is)
    (case e2_cC => k_is)
    (case e2_gC => k_is)
    (case e2_kk => k_is)
    (case e2_mC => k_is)
    (case e2_sB => first | k_is | rfl | k_exc | kernel_rfl)
    (case ac3 => k_is)
    (case e3_xL => k_is)
    (case e3_sa => k_is)
    (case e3_ga => k_is)
    (case e3_gg => k_is)
    (case e3_nb => k_is)
    (case e3_ai => k_is)
    (case e3_ti => k_is)
    (case e3_li => k_is)
    (case e3_ci => k_is)
    (case e3_ki => k_is)
    (case e3_kC => k_is)
    (case e3_eC => k_is)
    (case e3_tC => k_is)
    (case e3_hC => k_is)
    (case e3_cC => k_is)
    (case e3_gC => k_is)
    (case e3_kk => k_is)
    (case e3_mC => k_is)
    (case e3_sB => first | k_is | rfl | k_exc | kernel_rfl)
    (case ac4 => k_is)
    (case e4_xL => k_is)
    (case e4_sa => k_is)
    (case e4_ga => k_is)
    (case e4_gg => k_is)
    (case e4_nb => k_is)
    (case e4_ai => k_is)
    (case e4_ti => k_is)
    (case e4_li => k_is)
    (case e4_ci => k_is)
    (case e4_ki => k_is)
    (case e4_kC => k_is)
    (case e4_eC => k_is)
    (case e4_tC => k_is)
    (case e4_hC => k_is)
    (case e4_cC => k_is)
    (case e4_gC => k_is)
    (case e4_kk => k_is)
    (case e4_mC => k_is)
    (case e4_sB => first | k_is | rfl | k_exc | kernel_rfl)
    (case gl_MOST_LISTS => k_is)
    (case z1 => k_is)
    (case z2 => k_is)
    (case z3 => k_is)
    (case z4 => k_is)
    (case z5 => k_is)
    (case z6 => k_is)
    (case z7 => k_is)
    (case z8 => k_is)
    (case z9 => k_is)
    (case z10 => k_is)
    (case z11 => k_is)
    (case z12 => k_is)
    (case z13 => k_is)
    (case z14 => k_is)
    (case tbSbl => first | k_is | rfl | decide +kernel)
    (case tnSbl => first | k_is | rfl | decide +kernel)
    (case trSbl => first | k_is | rfl | decide +kernel)
    (case tbUneq => first | k_is | rfl | decide +kernel)
    (case tnUneq => first | k_is | rfl | decide +kernel)
    (case trUneq => first | k_is | rfl | decide +kernel)
    (case teSbl_Uneq => first | k_is | rfl | decide +kernel)

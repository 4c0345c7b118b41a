import PyProof.Rows.All
import Wide.All
import OpenK.AllK
import Wide.FinOn
import HandS.ForMost
import HandS.RaiseMore
import HandS.Strs
import HandS.SetFor
import HandS.Conv
import HandS.Wide
import HandS.IsInst
import HandS.Codes
import HandS.TupAny
import HandS.ForExc
import HandS.ExcInit
import HandS.ExcField
import HandS.ExcIs
import HandS.ExcOwn
import HandS.TupSets
import HandS.Walk
import HandS.RevRange
import HandS.Rev
import HandS.Style
import HandS.DictComp
import KE.GoesMore
import HandS.Flt
import HandS.Nested
import HandS.Strs
import HandS.TupAny
import HandS.TupLe
import KE.KTupSum
import HandS.Comp
import HandS.Deep
import KE.SortData
import KE.KeyNested
import HandS.DictSubView
import HandS.TupLen
import KE.KDictSum
import KE.KDictWalk
import HandS.Lambda
import HandS.EndTab
import KE.DataMinMax
import KE.KMinKey
import KE.KSortKeyAny
import PySem.Challenge.RW_evenfailover_k20_tables_that_are_too_sho
set_option Elab.async false
set_option linter.all false
set_option maxRecDepth 100000
set_option maxHeartbeats 4000000
namespace Ef
/-- Pascal's triangle -/
def C : Nat → Nat → Nat
  | _, 0 => 1
  | 0, _ + 1 => 0
  | n + 1, k + 1 => C n k + C n (k + 1)
theorem C_zero (n : Nat) : C n 0 = 1 := by cases n <;> rfl
theorem C_zs (k : Nat) : C 0 (k + 1) = 0 := rfl
theorem C_ss (n k : Nat) : C (n + 1) (k + 1) = C n k + C n (k + 1) := rfl
theorem C_big : ∀ (n k : Nat), n < k → C n k = 0
  | 0, k + 1, _ => rfl
  | n + 1, k + 1, h => by
    rw [C_ss, C_big n k (by omega), C_big n (k + 1) (by omega)]
theorem C_self : ∀ n : Nat, C n n = 1
  | 0 => rfl
  | n + 1 => by rw [C_ss, C_self n, C_big n (n + 1) (by omega)]
theorem C_absorb : ∀ (n k : Nat), C (n + 1) (k + 1) * (k + 1) = (n + 1) * C n k
  | 0, 0 => rfl
  | 0, k + 1 => by
    rw [C_ss, C_zs, C_zs]; simp
  | n + 1, 0 => by
    have h := C_absorb n 0
    rw [C_zero] at h
    rw [C_ss, C_zero]
    omega
  | n + 1, j + 1 => by
    have h1 := C_absorb n j
    have h2 := C_absorb n (j + 1)
    have e : C (n + 1) (j + 1) = C n j + C n (j + 1) := C_ss n j
    rw [C_ss (n + 1) (j + 1)]
    have a1 : (C (n + 1) (j + 1) + C (n + 1) (j + 1 + 1)) * (j + 1 + 1) = C (n + 1) (j + 1) * (j + 1) + C (n + 1) (j + 1) + C (n + 1) (j + 1 + 1) * (j + 1 + 1) := by
      rw [Nat.add_mul, Nat.mul_succ (C (n + 1) (j + 1)) (j + 1)]
    rw [a1, h1, h2]
    have a2 : (n + 1 + 1) * C (n + 1) (j + 1) = (n + 1) * C (n + 1) (j + 1) + C (n + 1) (j + 1) := Nat.succ_mul _ _
    rw [a2]
    have a3 : (n + 1) * C (n + 1) (j + 1) = (n + 1) * C n j + (n + 1) * C n (j + 1) := by rw [e, Nat.mul_add]
    rw [a3]
    omega
theorem C_step (n k : Nat) (h : k ≤ n) : C n (k + 1) * (k + 1) = C n k * (n - k) := by
  have h1 := C_absorb n k
  rw [C_ss, Nat.add_mul] at h1
  have h2 : (n + 1) * C n k = C n k * (k + 1) + C n k * (n - k) := by
    rw [← Nat.mul_add, Nat.mul_comm]
    congr 1
    omega
  omega
theorem C_symm : ∀ (n k : Nat), k ≤ n → C n k = C n (n - k)
  | n, 0, _ => by rw [C_zero, Nat.sub_zero, C_self]
  | n + 1, k + 1, h => by
    by_cases e : k = n
    · subst e
      rw [C_self, Nat.sub_self, C_zero]
    · have e1 : n + 1 - (k + 1) = (n - (k + 1)) + 1 := by omega
      rw [e1, C_ss, C_ss, ← C_symm n (k + 1) (by omega), show n - (k + 1) + 1 = n - k by omega, ← C_symm n k (by omega), Nat.add_comm]
theorem C_le : ∀ (n k : Nat), C n k ≤ 2 ^ n
  | n, 0 => by rw [C_zero]; exact Nat.one_le_two_pow
  | 0, k + 1 => by rw [C_zs]; exact Nat.zero_le _
  | n + 1, k + 1 => by
    have a := C_le n k
    have b := C_le n (k + 1)
    rw [C_ss, Nat.pow_succ]
    omega
theorem C_pos : ∀ (n k : Nat), k ≤ n → 0 < C n k
  | n, 0, _ => by rw [C_zero]; decide
  | n + 1, k + 1, h => by
    rw [C_ss]
    have := C_pos n k (by omega)
    omega
theorem C_min (n k : Nat) (h : k ≤ n) : C n (min k (n - k)) = C n k := by
  by_cases e : k ≤ n - k
  · rw [Nat.min_eq_left e]
  · rw [Nat.min_eq_right (by omega), ← C_symm n k h]
theorem C_60 (n k : Nat) (h : n ≤ 60) : C n k ≤ 1152921504606846976 := Nat.le_trans (C_le n k) (Nat.le_trans (Nat.pow_le_pow_right (by decide) h) (by decide))
/-- what the program's binomial answers -/
def binZ (n k : Int) : Int := if k < 0 ∨ n < k then 0 else (C n.toNat k.toNat : Int)
theorem binZ_nat (n k : Nat) : binZ n k = (C n k : Int) := by
  unfold binZ
  by_cases h : n < k
  · rw [if_pos (by omega), C_big n k h]; rfl
  · rw [if_neg (by omega)]; simp
/-- one step of its product -/
theorem C_div (n s : Nat) (h : s < n) : ((C n s : Int) * ((n : Int) + 1 - (1 + (s : Int)))) / (1 + (s : Int)) = (C n (s + 1) : Int) := by
  have e : (C n s : Int) * ((n : Int) + 1 - (1 + (s : Int))) = (C n (s + 1) : Int) * (1 + (s : Int)) := by
    have h1 := C_step n s (by omega)
    have h2 : ((n : Int) + 1 - (1 + (s : Int))) = ((n - s : Nat) : Int) := by omega
    have h3 : (1 + (s : Int)) = ((s + 1 : Nat) : Int) := by omega
    rw [h2, h3, ← Int.natCast_mul, ← Int.natCast_mul, h1]
  rw [e]
  exact Int.mul_ediv_cancel _ (by omega)
end Ef
namespace Ef
/-! ### the least numbers of lists -/
def stepL (a b : Nat) : Nat := a / Nat.gcd a b * b
def leastL (n : Nat) : Nat → Nat
  | 0 => 1
  | d + 1 => stepL (leastL n d) (n * C (n - 1) d)
theorem stepL_pos {a b : Nat} (ha : 0 < a) (hb : 0 < b) : 0 < stepL a b := by
  unfold stepL
  have h1 : Nat.gcd a b ≤ a := Nat.gcd_le_left b ha
  have h2 : 0 < Nat.gcd a b := Nat.gcd_pos_of_pos_left b ha
  exact Nat.mul_pos (Nat.div_pos h1 h2) hb
theorem edge_pos {n d : Nat} (h : d < n) : 0 < n * C (n - 1) d := Nat.mul_pos (by omega) (C_pos _ _ (by omega))
theorem leastL_pos {n : Nat} : ∀ {d : Nat}, d ≤ n → 0 < leastL n d
  | 0, _ => Nat.one_pos
  | d + 1, h => stepL_pos (leastL_pos (by omega)) (edge_pos (by omega))
theorem C_adj : ∀ (n k : Nat), C n k + C n (k + 1) ≤ 2 ^ n
  | 0, 0 => by decide
  | 0, k + 1 => by
    rw [C_zs, C_zs]
    decide
  | n + 1, 0 => by
    have h := C_adj n 0
    have h1 : 1 ≤ 2 ^ n := Nat.one_le_two_pow
    rw [C_zero] at h
    rw [C_ss, C_zero, C_zero, Nat.pow_succ]
    omega
  | n + 1, j + 1 => by
    have h := C_adj n j
    have h2 := C_adj n (j + 1)
    rw [C_ss, C_ss, Nat.pow_succ]
    omega
theorem C_half (n k : Nat) (h : 1 ≤ n) : C n k ≤ 2 ^ (n - 1) := by
  obtain ⟨m, rfl⟩ : ∃ m, n = m + 1 := ⟨n - 1, by omega⟩
  cases k with
  | zero =>
    rw [C_zero]
    exact Nat.one_le_two_pow
  | succ k => exact C_adj m k
theorem edge_lt {n d : Nat} (h : n ≤ 60) : n * C (n - 1) d < 18446744073709551616 := by
  by_cases h1 : n ≤ 1
  · have e : n - 1 = 0 := by omega
    have h2 : C (n - 1) d ≤ 2 ^ 0 := by rw [e]; exact C_le 0 d
    exact Nat.lt_of_le_of_lt (Nat.mul_le_mul h1 h2) (by decide)
  · have h2 : C (n - 1) d ≤ 2 ^ 58 := Nat.le_trans (C_half (n - 1) d (by omega)) (Nat.pow_le_pow_right (by decide) (by omega))
    exact Nat.lt_of_le_of_lt (Nat.mul_le_mul h h2) (by decide)
/-! rows of the triangle, reckoned one from the other -/
def nextRow : List Nat → List Nat := fun r => 1 :: List.zipWith (· + ·) r r.tail
def isRow (n : Nat) (r : List Nat) : Prop := ∀ k, k ≤ 60 → r[k]? = some (C n k)
theorem nextRow_is {n : Nat} {r : List Nat} (h : isRow n r) : ∀ k, k ≤ 60 → (nextRow r)[k]? = some (C (n + 1) k)
  | 0, _ => by
    rw [C_zero]
    rfl
  | k + 1, hk => by
    have h1 := h k (by omega)
    have h2 := h (k + 1) hk
    unfold nextRow
    rw [List.getElem?_cons_succ, List.getElem?_zipWith, h1, List.getElem?_tail, h2]
    rfl
def row0 : List Nat := 1 :: List.replicate 60 0
theorem row0_is : isRow 0 row0 := fun k hk => by
  cases k with
  | zero => rfl
  | succ k =>
    unfold row0
    rw [List.getElem?_cons_succ, List.getElem?_replicate, if_pos (by omega)]
    rfl
/-- P holds along the chain of least numbers: f of each -/
def chainOk (n : Nat) (f : Nat → Nat → Bool) : Nat → Nat → Nat → List Nat → Bool
  | 0, d, a, _ => f d a
  | m + 1, d, a, c :: r => f d a && chainOk n f m (d + 1) (stepL a (n * c)) r
  | _ + 1, _, _, [] => false
theorem chain_all {n : Nat} {f : Nat → Nat → Bool} {row : List Nat} (hr : isRow (n - 1) row) (hn : n ≤ 60) : ∀ (m d : Nat), d + m = n → chainOk n f m d (leastL n d) (row.drop d) = true → ∀ e, d ≤ e → e ≤ n → f e (leastL n e) = true
  | 0, d, h, ok, e, h1, h2 => by
    have e1 : e = d := by omega
    subst e1
    exact ok
  | m + 1, d, h, ok, e, h1, h2 => by
    have hd := hr d (by omega)
    have hlt : d < row.length := (List.getElem?_eq_some_iff.mp hd).1
    have hdr : row.drop d = C (n - 1) d :: row.drop (d + 1) := by
      rw [List.drop_eq_getElem_cons hlt]
      congr 1
      rw [List.getElem?_eq_getElem hlt] at hd
      exact Option.some.inj hd
    rw [hdr] at ok
    have ok2 : (f d (leastL n d) && chainOk n f m (d + 1) (leastL n (d + 1)) (row.drop (d + 1))) = true := ok
    rw [Bool.and_eq_true] at ok2
    by_cases c : e = d
    · rw [c]
      exact ok2.1
    · exact chain_all hr hn m (d + 1) (by omega) ok2.2 e (by omega) h2
def rowsOk (f : Nat → Nat → Nat → Bool) : Nat → Nat → List Nat → Bool
  | 0, _, _ => true
  | m + 1, n, row => chainOk n (f n) n 0 1 row && rowsOk f m (n + 1) (nextRow row)
theorem rows_all {f : Nat → Nat → Nat → Bool} : ∀ (m n : Nat) (row : List Nat), isRow (n - 1) row → 1 ≤ n → rowsOk f m n row = true → ∀ k, n ≤ k → k < n + m → k ≤ 60 → ∀ d, d ≤ k → f k d (leastL k d) = true
  | 0, _, _, _, _, _, k, h1, h2, _, _, _ => by omega
  | m + 1, n, row, hr, h0, ok, k, h1, h2, h6, d, hd => by
    have ok2 : (chainOk n (f n) n 0 1 row && rowsOk f m (n + 1) (nextRow row)) = true := ok
    rw [Bool.and_eq_true] at ok2
    by_cases c : k = n
    · subst c
      exact chain_all hr h6 k 0 (by omega) ok2.1 d (by omega) hd
    · have hr2 : isRow (n + 1 - 1) (nextRow row) := fun j hj => by
        have e : n + 1 - 1 = (n - 1) + 1 := by omega
        rw [e]
        exact nextRow_is hr j hj
      exact rows_all m (n + 1) (nextRow row) hr2 (by omega) ok2.2 k (by omega) (by omega) h6 d hd
theorem small_ok : rowsOk (fun _ _ a => Nat.blt a (2 ^ 100)) 60 1 row0 = true := by decide +kernel
theorem leastL_lt {n d : Nat} (h1 : 1 ≤ n) (h6 : n ≤ 60) (hd : d ≤ n) : leastL n d < 2 ^ 100 := by
  have h := rows_all 60 1 row0 row0_is (by decide) small_ok n h1 (by omega) h6 d hd
  have h2 : Nat.blt (leastL n d) (2 ^ 100) = true := h
  rw [Nat.blt_eq] at h2
  exact h2
end Ef
namespace Ef
/-! ### the standard table -/
theorem stepL_left (a b : Nat) (ha : 0 < a) : a ∣ stepL a b := by
  unfold stepL
  have h1 : Nat.gcd a b ∣ a := Nat.gcd_dvd_left a b
  have h2 : Nat.gcd a b ∣ b := Nat.gcd_dvd_right a b
  refine ⟨b / Nat.gcd a b, ?_⟩
  obtain ⟨x, hx⟩ := h1
  obtain ⟨y, hy⟩ := h2
  have g0 : 0 < Nat.gcd a b := Nat.gcd_pos_of_pos_left b ha
  generalize Nat.gcd a b = g at hx hy g0
  subst hx hy
  rw [Nat.mul_div_cancel_left _ g0, Nat.mul_div_cancel_left _ g0, Nat.mul_comm g x, Nat.mul_assoc]
theorem stepL_right (a b : Nat) : b ∣ stepL a b := ⟨a / Nat.gcd a b, Nat.mul_comm _ _⟩
theorem leastL_dvd {n : Nat} : ∀ {d : Nat}, d ≤ n → ∀ b, b < d → n * C (n - 1) b ∣ leastL n d
  | 0, _, b, h => by omega
  | d + 1, hd, b, h => by
    by_cases e : b = d
    · subst e
      exact stepL_right _ _
    · exact Nat.dvd_trans (leastL_dvd (by omega) b (by omega)) (stepL_left _ _ (leastL_pos (by omega)))
/-- width of a block at a level -/
def wd (n c s : Nat) : Nat := c / (n * C (n - 1) s)
theorem wd_eq {n c s : Nat} (h : n * C (n - 1) s ∣ c) : wd n c s * (n * C (n - 1) s) = c := Nat.div_mul_cancel h
theorem wd_pos {n c s : Nat} (h : n * C (n - 1) s ∣ c) (hc : 0 < c) : 0 < wd n c s := by
  have e := wd_eq h
  cases z : wd n c s with
  | zero =>
    rw [z, Nat.zero_mul] at e
    omega
  | succ k => omega
theorem wd_step {n c b : Nat} (h1 : n * C (n - 1) b ∣ c) (h2 : n * C (n - 1) (b + 1) ∣ c) (hb : b + 1 < n) : wd n c b * (b + 1) = wd n c (b + 1) * (n - (b + 1)) := by
  have e1 := wd_eq h1
  have e2 := wd_eq h2
  have s := C_step (n - 1) b (by omega)
  have p : 0 < n * C (n - 1) b := edge_pos (by omega)
  have x1 : wd n c b * (b + 1) * (n * C (n - 1) b) = c * (b + 1) := by
    rw [Nat.mul_right_comm, e1]
  have x2 : wd n c (b + 1) * (n - (b + 1)) * (n * C (n - 1) b) = c * (b + 1) := by
    have y : wd n c (b + 1) * (n * C (n - 1) (b + 1)) * (b + 1) = c * (b + 1) := by rw [e2]
    rw [← y, Nat.mul_assoc, Nat.mul_assoc (wd n c (b + 1)), Nat.mul_assoc n, s, show n - 1 - b = n - (b + 1) by omega]
    congr 1
    rw [Nat.mul_comm (n - (b + 1)), Nat.mul_assoc]
  exact Nat.eq_of_mul_eq_mul_right p (x1.trans x2.symm)
theorem wd_zero {n c : Nat} (h : n * C (n - 1) 0 ∣ c) : wd n c 0 * n = c := by
  have e := wd_eq h
  rw [C_zero, Nat.mul_one] at e
  exact e
theorem wd_le (n c s : Nat) : wd n c s ≤ c := Nat.div_le_self _ _
/-- what 'follow' takes and what it leaves -/
def fol (n c : Nat) : List Nat → List Nat → Nat → List Nat × Nat
  | [], _, r => ([], r)
  | s :: ss, L, r => (L.getD (r / wd n c s) 0 :: (fol n c ss (L.eraseIdx (r / wd n c s)) (wd n c s * (L.getD (r / wd n c s) 0 - r / wd n c s) + r % wd n c s)).1,
      (fol n c ss (L.eraseIdx (r / wd n c s)) (wd n c s * (L.getD (r / wd n c s) 0 - r / wd n c s) + r % wd n c s)).2)
def FolOk (n c : Nat) : List Nat → List Nat → Nat → Prop
  | [], _, _ => True
  | s :: ss, L, r => 0 < wd n c s ∧ r / wd n c s < L.length ∧ r / wd n c s ≤ L.getD (r / wd n c s) 0 ∧
      FolOk n c ss (L.eraseIdx (r / wd n c s)) (wd n c s * (L.getD (r / wd n c s) 0 - r / wd n c s) + r % wd n c s)
theorem fol_cons (n c s : Nat) (ss L : List Nat) (r : Nat) : fol n c (s :: ss) L r = (L.getD (r / wd n c s) 0 :: (fol n c ss (L.eraseIdx (r / wd n c s)) (wd n c s * (L.getD (r / wd n c s) 0 - r / wd n c s) + r % wd n c s)).1, (fol n c ss (L.eraseIdx (r / wd n c s)) (wd n c s * (L.getD (r / wd n c s) 0 - r / wd n c s) + r % wd n c s)).2) := rfl
theorem fol_len (n c : Nat) : ∀ ss L r, (fol n c ss L r).1.length = ss.length
  | [], _, _ => rfl
  | s :: ss, L, r => congrArg (· + 1) (fol_len n c ss _ _)
/-- ascending -/
abbrev Asc (L : List Nat) : Prop := L.Pairwise (· < ·)
theorem getD_of {L : List Nat} {i : Nat} (h : i < L.length) : L[i]? = some (L.getD i 0) := by
  rw [List.getD_eq_getElem?_getD, List.getElem?_eq_getElem h]
  rfl
/-- an ascending list counted from lo -/
theorem asc_from : ∀ {L : List Nat} {lo : Nat}, Asc L → (∀ x ∈ L, lo ≤ x) → ∀ {i x : Nat}, L[i]? = some x → lo + i ≤ x
  | [], _, _, _, _, _, h => by cases h
  | y :: L, lo, a, hl, 0, x, h => by
    obtain rfl : y = x := Option.some.inj h
    exact hl y List.mem_cons_self
  | y :: L, lo, a, hl, i + 1, x, h => by
    have h1 : L[i]? = some x := h
    have hy := hl y List.mem_cons_self
    have h2 := asc_from (L := L) (lo := lo + 1) (List.pairwise_cons.mp a).2 (fun z hz => by
      have := (List.pairwise_cons.mp a).1 z hz
      omega) h1
    omega
theorem asc_ge {L : List Nat} (a : Asc L) {i x : Nat} (h : L[i]? = some x) : i ≤ x := by
  have := asc_from a (lo := 0) (fun _ _ => Nat.zero_le _) h
  omega
theorem asc_le : ∀ {L : List Nat} {n : Nat}, Asc L → (∀ x ∈ L, x < n) → ∀ {i x : Nat}, L[i]? = some x → x + (L.length - i) ≤ n
  | [], _, _, _, _, _, h => by cases h
  | [y], n, _, hl, 0, x, h => by
    obtain rfl : y = x := Option.some.inj h
    have := hl y List.mem_cons_self
    show y + 1 ≤ n
    omega
  | y :: z :: L, n, a, hl, 0, x, h => by
    obtain rfl : y = x := Option.some.inj h
    have h1 := asc_le (L := z :: L) (List.pairwise_cons.mp a).2 (fun u hu => hl u (List.mem_cons_of_mem _ hu)) (i := 0) (x := z) rfl
    have h2 := (List.pairwise_cons.mp a).1 z List.mem_cons_self
    have e : (y :: z :: L).length = (z :: L).length + 1 := rfl
    omega
  | y :: L, n, a, hl, i + 1, x, h => by
    have h1 := asc_le (L := L) (List.pairwise_cons.mp a).2 (fun u hu => hl u (List.mem_cons_of_mem _ hu)) (i := i) (x := x) h
    have e : (y :: L).length = L.length + 1 := rfl
    omega
theorem asc_erase {L : List Nat} (a : Asc L) (i : Nat) : Asc (L.eraseIdx i) := a.sublist (List.eraseIdx_sublist L i)
/-- the way forward keeps within its bounds -/
theorem folOk_path {n c d : Nat} (hd : ∀ b, b < d → n * C (n - 1) b ∣ c) (hc : 0 < c) (hdn : d ≤ n) : ∀ (m b : Nat) (L : List Nat) (r : Nat), b + m = d → Asc L → (∀ x ∈ L, x < n) → L.length = n - b → (b < d → r < wd n c b * (n - b)) → FolOk n c (List.range' b m) L r
  | 0, _, _, _, _, _, _, _, _ => trivial
  | m + 1, b, L, r, e, a, hl, hlen, hr => by
    have hb := hd b (by omega)
    have w0 := wd_pos hb hc
    have hr2 := hr (by omega)
    have hi : r / wd n c b < L.length := by
      rw [hlen]
      exact Nat.div_lt_of_lt_mul hr2
    have hx := getD_of hi
    have g1 := asc_ge a hx
    have g2 := asc_le a hl hx
    refine ⟨w0, hi, g1, ?_⟩
    refine folOk_path hd hc hdn m (b + 1) _ _ (by omega) (asc_erase a _) (fun x hx => hl x (List.mem_of_mem_eraseIdx hx)) ?_ (fun hlt => ?_)
    · rw [List.length_eraseIdx, if_pos hi]
      omega
    · rw [← wd_step hb (hd (b + 1) hlt) (by omega)]
      have h1 : r % wd n c b < wd n c b := Nat.mod_lt _ w0
      have h2 : L.getD (r / wd n c b) 0 - r / wd n c b ≤ b := by omega
      have h3 : wd n c b * (L.getD (r / wd n c b) 0 - r / wd n c b) ≤ wd n c b * b := Nat.mul_le_mul_left _ h2
      rw [Nat.mul_add, Nat.mul_one]
      omega
/-- count of lists and depth that go together -/
structure Std (n d c : Nat) : Prop where
  n60 : n ≤ 60
  n1 : 1 ≤ n
  dn : d ≤ n
  c0 : 0 < c
  dv : leastL n d ∣ c
theorem Std.dvd {n d c : Nat} (h : Std n d c) (b : Nat) (hb : b < d) : n * C (n - 1) b ∣ c := Nat.dvd_trans (leastL_dvd h.dn b hb) h.dv
def path (n d c k : Nat) : List Nat × Nat := fol n c (List.range' 0 d) (List.range' 0 n) k
theorem asc_range' : ∀ (m b : Nat), Asc (List.range' b m) := fun m b => List.pairwise_lt_range'
theorem mem_range0 {n x : Nat} : x ∈ List.range' 0 n ↔ x < n := by
  rw [List.mem_range']
  exact ⟨fun ⟨i, h1, h2⟩ => by omega, fun h => ⟨x, h, by omega⟩⟩
theorem path_ok {n d c k : Nat} (h : Std n d c) (hk : k < c) : FolOk n c (List.range' 0 d) (List.range' 0 n) k :=
  folOk_path h.dvd h.c0 h.dn d 0 _ _ (by omega) (asc_range' n 0) (fun x hx => mem_range0.mp hx) (by rw [List.length_range']; omega) fun hd => by
    rw [Nat.sub_zero, wd_zero (h.dvd 0 hd)]
    exact hk
theorem fol_mem {n c : Nat} : ∀ {ss L : List Nat} {r : Nat}, FolOk n c ss L r → ∀ x ∈ (fol n c ss L r).1, x ∈ L
  | [], _, _, _, x, hx => by cases hx
  | s :: ss, L, r, ok, x, hx => by
    rw [fol_cons] at hx
    obtain ⟨_, h2, _, ok2⟩ := ok
    rcases List.mem_cons.mp hx with rfl | hx
    · exact List.mem_of_getElem? (getD_of h2)
    · exact List.mem_of_mem_eraseIdx (fol_mem ok2 x hx)
theorem nodup_inj {L : List Nat} (hn : L.Nodup) {i j x : Nat} (h1 : L[i]? = some x) (h2 : L[j]? = some x) : i = j := by
  obtain ⟨a1, a2⟩ := List.getElem?_eq_some_iff.mp h1
  obtain ⟨b1, b2⟩ := List.getElem?_eq_some_iff.mp h2
  rcases Nat.lt_trichotomy i j with c | c | c
  · exact absurd (a2.trans b2.symm) (List.pairwise_iff_getElem.mp hn i j a1 b1 c)
  · exact c
  · exact absurd (b2.trans a2.symm) (List.pairwise_iff_getElem.mp hn j i b1 a1 c)
theorem not_mem_erase {L : List Nat} {i x : Nat} (hn : L.Nodup) (h : L[i]? = some x) : x ∉ L.eraseIdx i := by
  intro hm
  obtain ⟨k, hk⟩ := List.getElem?_of_mem hm
  rw [List.getElem?_eraseIdx] at hk
  split at hk
  · have := nodup_inj hn hk h
    omega
  · have := nodup_inj hn hk h
    omega
theorem fol_nodup {n c : Nat} : ∀ {ss L : List Nat} {r : Nat}, FolOk n c ss L r → L.Nodup → (fol n c ss L r).1.Nodup
  | [], _, _, _, _ => List.nodup_nil
  | s :: ss, L, r, ok, hn => by
    rw [fol_cons]
    obtain ⟨_, h2, _, ok2⟩ := ok
    refine List.nodup_cons.mpr ⟨fun hx => not_mem_erase hn (getD_of h2) (fol_mem ok2 _ hx), fol_nodup ok2 (hn.sublist (List.eraseIdx_sublist _ _))⟩
theorem asc_nodup {L : List Nat} (h : Asc L) : L.Nodup := h.imp fun z => Nat.ne_of_lt z
theorem path_nodup {n d c k : Nat} (h : Std n d c) (hk : k < c) : (path n d c k).1.Nodup := fol_nodup (path_ok h hk) (asc_nodup (asc_range' n 0))
theorem path_lt {n d c k : Nat} (h : Std n d c) (hk : k < c) : ∀ x ∈ (path n d c k).1, x < n := fun x hx => mem_range0.mp (fol_mem (path_ok h hk) x hx)
theorem path_len (n d c k : Nat) : (path n d c k).1.length = d := by
  unfold path
  rw [fol_len, List.length_range']
theorem fol_rest {n c d : Nat} (hd : ∀ b, b < d → n * C (n - 1) b ∣ c) (hc : 0 < c) (hdn : d ≤ n) : ∀ (m b : Nat) (L : List Nat) (r : Nat), b + m = d → Asc L → (∀ x ∈ L, x < n) → L.length = n - b → (b < d → r < wd n c b * (n - b)) → r < c → (fol n c (List.range' b m) L r).2 < c
  | 0, _, _, _, _, _, _, _, _, h => h
  | m + 1, b, L, r, e, a, hl, hlen, hr, h => by
    have hb := hd b (by omega)
    have w0 := wd_pos hb hc
    have hr2 := hr (by omega)
    have hi : r / wd n c b < L.length := by
      rw [hlen]
      exact Nat.div_lt_of_lt_mul hr2
    have hx := getD_of hi
    have g1 := asc_ge a hx
    have g2 := asc_le a hl hx
    have h1 : r % wd n c b < wd n c b := Nat.mod_lt _ w0
    have h2 : L.getD (r / wd n c b) 0 - r / wd n c b ≤ b := by omega
    have h3 : wd n c b * (L.getD (r / wd n c b) 0 - r / wd n c b) ≤ wd n c b * b := Nat.mul_le_mul_left _ h2
    have h4 : wd n c b * (L.getD (r / wd n c b) 0 - r / wd n c b) + r % wd n c b < wd n c b * (b + 1) := by
      rw [Nat.mul_add, Nat.mul_one]
      omega
    have h5 : wd n c b * (b + 1) ≤ c := by
      have p : 0 < C (n - 1) b := C_pos _ _ (by omega)
      have p2 : b + 1 ≤ n * C (n - 1) b := Nat.le_trans (show b + 1 ≤ n * 1 by omega) (Nat.mul_le_mul_left n p)
      have := Nat.mul_le_mul_left (wd n c b) p2
      rw [wd_eq hb] at this
      exact this
    rw [List.range'_succ, fol_cons]
    refine fol_rest hd hc hdn m (b + 1) _ _ (by omega) (asc_erase a _) (fun x hx => hl x (List.mem_of_mem_eraseIdx hx)) ?_ (fun hlt => ?_) (by omega)
    · rw [List.length_eraseIdx, if_pos hi]
      omega
    · rw [← wd_step hb (hd (b + 1) hlt) (by omega)]
      exact h4
theorem path_rest {n d c k : Nat} (h : Std n d c) (hk : k < c) : (path n d c k).2 < c :=
  fol_rest h.dvd h.c0 h.dn d 0 _ _ (by omega) (asc_range' n 0) (fun x hx => mem_range0.mp hx) (by rw [List.length_range']; omega) (fun hd => by
    rw [Nat.sub_zero, wd_zero (h.dvd 0 hd)]
    exact hk) hk
theorem asc_unique {L M : List Nat} (a : Asc L) (b : Asc M) (p : L.Perm M) : L = M :=
  List.Perm.eq_of_pairwise (le := (· ≤ ·)) (fun a b _ _ h1 h2 => Nat.le_antisymm h1 h2) (a.imp fun z => Nat.le_of_lt z) (b.imp fun z => Nat.le_of_lt z) p
theorem std_of {n d : Nat} (h6 : n ≤ 60) (h1 : 1 ≤ n) (hd : d ≤ n) (q : Nat) (hq : 0 < q) : Std n d (leastL n d * q) := ⟨h6, h1, hd, Nat.mul_pos (leastL_pos hd) hq, ⟨q, rfl⟩⟩
/-! what stands outside a set, and the places in it -/
theorem below_at : ∀ {M : List Nat}, Asc M → ∀ {j s : Nat}, M[j]? = some s → (M.filter fun x => decide (x < s)).length = j
  | [], _, _, _, h => by cases h
  | y :: M, a, 0, s, h => by
    obtain rfl : y = s := Option.some.inj h
    rw [List.filter_cons_of_neg (by simp), List.filter_eq_nil_iff.mpr]
    · rfl
    · intro x hx
      have := (List.pairwise_cons.mp a).1 x hx
      simp
      omega
  | y :: M, a, j + 1, s, h => by
    have h1 : M[j]? = some s := h
    have h2 := (List.pairwise_cons.mp a).1 s (List.mem_of_getElem? h1)
    rw [List.filter_cons_of_pos (by simpa using h2)]
    exact congrArg (· + 1) (below_at (List.pairwise_cons.mp a).2 h1)
/-- L: the servers outside I, ascending -/
structure Compl (n : Nat) (I L : List Nat) : Prop where
  aI : Asc I
  aL : Asc L
  bI : ∀ x ∈ I, x < n
  mem : ∀ x, x ∈ L ↔ x < n ∧ x ∉ I
theorem Compl.count {n : Nat} {I L : List Nat} (h : Compl n I L) {i s : Nat} (e : L[i]? = some s) : (I.filter fun x => decide (x < s)).length + i = s := by
  have hs := (h.mem s).mp (List.mem_of_getElem? e)
  have p : ((I.filter fun x => decide (x < s)) ++ (L.filter fun x => decide (x < s))).Perm (List.range' 0 s) := by
    refine (List.perm_ext_iff_of_nodup ?_ (asc_nodup (asc_range' s 0))).mpr fun x => ?_
    · refine List.nodup_append.mpr ⟨(asc_nodup h.aI).filter _, (asc_nodup h.aL).filter _, fun x hx y hy e2 => ?_⟩
      subst e2
      exact ((h.mem x).mp (List.mem_filter.mp hy).1).2 (List.mem_filter.mp hx).1
    · rw [List.mem_append, List.mem_filter, List.mem_filter, mem_range0, h.mem]
      simp only [decide_eq_true_eq]
      constructor
      · rintro (⟨_, h⟩ | ⟨_, h⟩) <;> exact h
      · intro hx
        by_cases c : x ∈ I
        · exact .inl ⟨c, hx⟩
        · exact .inr ⟨⟨by omega, c⟩, hx⟩
  have l := p.length_eq
  rw [List.length_append, below_at h.aL e, List.length_range'] at l
  exact l
theorem Compl.start (n : Nat) : Compl n [] (List.range' 0 n) := ⟨List.Pairwise.nil, asc_range' n 0, fun x hx => absurd hx List.not_mem_nil, fun x => by rw [mem_range0]; simp⟩
theorem Compl.next {n : Nat} {I L I' : List Nat} (h : Compl n I L) {i s : Nat} (e : L[i]? = some s) (hp : I'.Perm (I ++ [s])) (ha : Asc I') : Compl n I' (L.eraseIdx i) := by
  have hs := (h.mem s).mp (List.mem_of_getElem? e)
  refine ⟨ha, asc_erase h.aL i, fun x hx => ?_, fun x => ?_⟩
  · rcases List.mem_append.mp (hp.mem_iff.mp hx) with hx | hx
    · exact h.bI x hx
    · rw [List.mem_singleton.mp hx]
      exact hs.1
  · constructor
    · intro hx
      have h1 := (h.mem x).mp (List.mem_of_mem_eraseIdx hx)
      refine ⟨h1.1, fun hx2 => ?_⟩
      rcases List.mem_append.mp (hp.mem_iff.mp hx2) with z | z
      · exact h1.2 z
      · rw [List.mem_singleton.mp z] at hx
        exact not_mem_erase (asc_nodup h.aL) e hx
    · rintro ⟨h1, h2⟩
      have h3 : x ∉ I := fun z => h2 (hp.mem_iff.mpr (List.mem_append_left _ z))
      have h4 : x ≠ s := fun z => h2 (hp.mem_iff.mpr (List.mem_append_right _ (by rw [z]; exact List.mem_singleton_self s)))
      obtain ⟨k, hk⟩ := List.getElem?_of_mem ((h.mem x).mpr ⟨h1, h3⟩)
      have hki : k ≠ i := fun z => by
        rw [z, e] at hk
        exact h4 (Option.some.inj hk).symm
      rcases Nat.lt_or_gt_of_ne hki with hlt | hgt
      · exact List.mem_of_getElem? (i := k) (by rw [List.getElem?_eraseIdx, if_pos hlt]; exact hk)
      · exact List.mem_of_getElem? (i := k - 1) (by rw [List.getElem?_eraseIdx, if_neg (by omega), show k - 1 + 1 = k by omega]; exact hk)
/-- the place of the new one -/
theorem Compl.index {n : Nat} {I L I' : List Nat} (h : Compl n I L) {i j s : Nat} (e : L[i]? = some s) (hp : I'.Perm (I ++ [s])) (ha : Asc I') (hj : I'[j]? = some s) : j + i = s := by
  have h1 := h.count e
  have h2 := below_at ha hj
  have h3 := (hp.filter fun x => decide (x < s)).length_eq
  rw [List.filter_append, List.length_append] at h3
  have h4 : (List.filter (fun x => decide (x < s)) [s]).length = 0 := by
    rw [List.filter_cons_of_neg (by simp)]
    rfl
  omega
theorem Compl.free {n : Nat} {I L : List Nat} (h : Compl n I L) : (List.range' 0 n).filter (fun x => !decide (x ∈ I)) = L := by
  have a1 : Asc ((List.range' 0 n).filter (fun x => !decide (x ∈ I))) := (asc_range' n 0).filter _
  refine List.Perm.eq_of_pairwise (le := (· ≤ ·)) (fun a b _ _ h1 h2 => Nat.le_antisymm h1 h2) (a1.imp fun z => Nat.le_of_lt z) (h.aL.imp fun z => Nat.le_of_lt z) ?_
  refine (List.perm_ext_iff_of_nodup (asc_nodup a1) (asc_nodup h.aL)).mpr fun x => ?_
  rw [List.mem_filter, mem_range0, h.mem]
  simp
end Ef
namespace Ef
/-! ### the sets of a size among ascending servers -/
def combs : List Nat → Nat → List (List Nat)
  | _, 0 => [[]]
  | [], _ + 1 => []
  | x :: r, k + 1 => (combs r k).map (x :: ·) ++ combs r (k + 1)
theorem combs_zero (l : List Nat) : combs l 0 = [[]] := by cases l <;> rfl
theorem combs_short : ∀ (l : List Nat) (k : Nat), l.length < k → combs l k = []
  | _, 0, h => absurd h (Nat.not_lt_zero _)
  | [], k + 1, _ => rfl
  | x :: r, k + 1, h => by
    have h2 : r.length < k := by
      simp only [List.length_cons] at h
      omega
    show (combs r k).map _ ++ combs r (k + 1) = []
    rw [combs_short r k h2, combs_short r (k + 1) (by omega)]
    rfl
theorem combs_good : ∀ (l : List Nat) (k : Nat), ∀ c ∈ combs l k, c.length = k ∧ c.Sublist l
  | l, 0, c, h => by
    rw [combs_zero] at h
    rw [List.mem_singleton.mp h]
    exact ⟨rfl, List.nil_sublist _⟩
  | [], k + 1, c, h => by cases h
  | x :: r, k + 1, c, h => by
    rcases List.mem_append.mp h with h | h
    · obtain ⟨d, hd, rfl⟩ := List.mem_map.mp h
      obtain ⟨h1, h2⟩ := combs_good r k d hd
      exact ⟨by rw [List.length_cons, h1], h2.cons_cons x⟩
    · obtain ⟨h1, h2⟩ := combs_good r (k + 1) c h
      exact ⟨h1, h2.cons x⟩
theorem combs_ne : ∀ (l : List Nat) (k : Nat), k ≤ l.length → combs l k ≠ []
  | l, 0, _ => by rw [combs_zero]; simp
  | [], k + 1, h => by simp at h
  | x :: r, k + 1, h => by
    have h2 : k ≤ r.length := by
      simp only [List.length_cons] at h
      omega
    show (combs r k).map _ ++ combs r (k + 1) ≠ []
    intro e
    have := (List.append_eq_nil_iff.mp e).1
    exact combs_ne r k h2 (List.map_eq_nil_iff.mp this)
theorem combs_mem : ∀ (l c : List Nat), c.Sublist l → c ∈ combs l c.length
  | l, [], _ => by
    show [] ∈ combs l 0
    rw [combs_zero]
    exact List.mem_singleton.mpr rfl
  | [], _ :: _, h => by cases h
  | x :: r, y :: c, h => by
    show y :: c ∈ (combs r c.length).map (x :: ·) ++ combs r (c.length + 1)
    cases h with
    | cons _ h => exact List.mem_append_right _ (combs_mem r (y :: c) h)
    | cons_cons _ h => exact List.mem_append_left _ (List.mem_map.mpr ⟨c, combs_mem r c h, rfl⟩)
/-- by the place of the first one -/
theorem combs_from (l : List Nat) (m : Nat) : ∀ (d s : Nat), l.length + 1 ≤ s + d + (m + 1) → s + d + (m + 1) ≤ l.length + 1 ∨ d = 0 → combs (l.drop s) (m + 1) = (List.range' s d).flatMap fun i => (combs (l.drop (i + 1)) m).map (l.getD i 0 :: ·)
  | 0, s, h1, _ => by
    rw [combs_short _ _ (by rw [List.length_drop]; omega)]
    rfl
  | d + 1, s, h1, h2 => by
    have hs : s < l.length := by omega
    rw [List.drop_eq_getElem_cons hs]
    show (combs (l.drop (s + 1)) m).map _ ++ combs (l.drop (s + 1)) (m + 1) = _
    rw [combs_from l m d (s + 1) (by omega) (by omega), List.range'_succ, List.flatMap_cons]
    congr 2
    funext c
    rw [List.getD_eq_getElem?_getD, List.getElem?_eq_getElem hs]
    rfl
/-- one server more, in the order of the law -/
def moreC (l : List Nat) (c : List Nat) : List (List Nat) := (l.filter fun y => decide (c = [] ∨ c.getLastD 0 < y)).map fun y => c ++ [y]
theorem last_cons (x : Nat) (c : List Nat) (h : c ≠ []) : (x :: c).getLastD 0 = c.getLastD 0 := by
  cases c with
  | nil => exact absurd rfl h
  | cons a r => rfl
theorem last_mem (c : List Nat) (h : c ≠ []) : c.getLastD 0 ∈ c := by
  cases c with
  | nil => exact absurd rfl h
  | cons a r =>
    have e : (a :: r).getLastD 0 = (a :: r).getLast h := by
      rw [List.getLastD_cons, List.getLast_eq_getLastD]
    rw [e]
    exact List.getLast_mem h
theorem flat_congr {α β : Type} {f g : α → List β} : ∀ {l : List α}, (∀ a ∈ l, f a = g a) → l.flatMap f = l.flatMap g
  | [], _ => rfl
  | a :: l, h => by rw [List.flatMap_cons, List.flatMap_cons, h a List.mem_cons_self, flat_congr fun b hb => h b (List.mem_cons_of_mem _ hb)]
theorem combs_more : ∀ (l : List Nat) (t : Nat), Asc l → (combs l t).flatMap (moreC l) = combs l (t + 1)
  | [], 0, _ => rfl
  | [], t + 1, _ => rfl
  | x :: r, 0, h => by
    obtain ⟨h1, h2⟩ := List.pairwise_cons.mp h
    have ih := combs_more r 0 h2
    rw [combs_zero] at ih ⊢
    rw [List.flatMap_cons, List.flatMap_nil, List.append_nil] at ih ⊢
    show _ = (combs r 0).map (x :: ·) ++ combs r 1
    rw [← ih, combs_zero]
    unfold moreC
    rw [List.filter_cons_of_pos (by simp)]
    rfl
  | x :: r, t + 1, h => by
    obtain ⟨h1, h2⟩ := List.pairwise_cons.mp h
    show ((combs r t).map (x :: ·) ++ combs r (t + 1)).flatMap (moreC (x :: r)) = (combs r (t + 1)).map (x :: ·) ++ combs r (t + 2)
    rw [List.flatMap_append]
    have e2 : (combs r (t + 1)).flatMap (moreC (x :: r)) = combs r (t + 2) := by
      rw [← combs_more r (t + 1) h2]
      refine flat_congr fun c hc => ?_
      obtain ⟨g1, g2⟩ := combs_good r (t + 1) c hc
      have ne : c ≠ [] := fun e => by rw [e] at g1; cases g1
      have hl := h1 _ (g2.subset (last_mem c ne))
      unfold moreC
      rw [List.filter_cons_of_neg]
      simp only [decide_eq_true_eq, not_or]
      exact ⟨ne, by omega⟩
    have e1 : ((combs r t).map (x :: ·)).flatMap (moreC (x :: r)) = (combs r (t + 1)).map (x :: ·) := by
      rw [← combs_more r t h2, List.flatMap_map, List.map_flatMap]
      refine flat_congr fun c hc => ?_
      obtain ⟨g1, g2⟩ := combs_good r t c hc
      unfold moreC
      rw [List.map_map]
      by_cases ne : c = []
      · subst ne
        rw [List.filter_cons_of_neg (by simp)]
        have e : (r.filter fun y => decide (([x] : List Nat) = [] ∨ ([x] : List Nat).getLastD 0 < y)) = r.filter fun y => decide (([] : List Nat) = [] ∨ ([] : List Nat).getLastD 0 < y) := by
          refine List.filter_congr fun y hy => ?_
          have := h1 y hy
          simp [this]
        rw [e]
        rfl
      · have hl := h1 _ (g2.subset (last_mem c ne))
        rw [List.filter_cons_of_neg (by
          simp only [decide_eq_true_eq, not_or]
          exact ⟨by simp, by rw [last_cons x c ne]; omega⟩)]
        have e : (r.filter fun y => decide (x :: c = [] ∨ (x :: c).getLastD 0 < y)) = r.filter fun y => decide (c = [] ∨ c.getLastD 0 < y) := by
          refine List.filter_congr fun y hy => ?_
          rw [last_cons x c ne]
          simp [ne]
        rw [e]
        rfl
    rw [e1, e2]
/-! the program's beginnings -/
def stepB (l : List Nat) (m : Nat) (b : List Nat × Nat) : List (List Nat × Nat) := (List.range' b.2 (l.length + 1 - m - b.2)).map fun i => (b.1 ++ [l.getD i 0], i + 1)
def begB (l : List Nat) (k : Nat) : Nat → List (List Nat × Nat)
  | 0 => [([], 0)]
  | t + 1 => (begB l k t).flatMap (stepB l (k - t))
def restB (l : List Nat) (m : Nat) (b : List Nat × Nat) : List (List Nat) := (combs (l.drop b.2) m).map (b.1 ++ ·)
theorem step_rest (l : List Nat) (m : Nat) (b : List Nat × Nat) : (stepB l (m + 1) b).flatMap (restB l m) = restB l (m + 1) b := by
  unfold stepB restB
  rw [combs_from l m (l.length + 1 - (m + 1) - b.2) b.2 (by omega) (by omega), List.flatMap_map, List.map_flatMap]
  refine flat_congr fun i _ => ?_
  rw [List.map_map]
  refine List.map_congr_left fun c _ => ?_
  show b.1 ++ [l.getD i 0] ++ c = b.1 ++ (l.getD i 0 :: c)
  rw [List.append_assoc]
  rfl
theorem flat_flat {α β γ : Type} (f : α → List β) (g : β → List γ) : ∀ l : List α, (l.flatMap f).flatMap g = l.flatMap fun a => (f a).flatMap g
  | [] => rfl
  | a :: l => by rw [List.flatMap_cons, List.flatMap_append, List.flatMap_cons, flat_flat f g l]
theorem beg_rest (l : List Nat) (k : Nat) : ∀ t, t ≤ k → (begB l k t).flatMap (restB l (k - t)) = combs l k
  | 0, _ => by
    show restB l k ([], 0) ++ [] = _
    unfold restB
    rw [List.append_nil]
    show (combs l k).map _ = _
    exact List.map_id _
  | t + 1, h => by
    rw [← beg_rest l k t (by omega)]
    show ((begB l k t).flatMap (stepB l (k - t))).flatMap _ = _
    rw [flat_flat]
    refine flat_congr fun b _ => ?_
    have e : k - t = (k - (t + 1)) + 1 := by omega
    rw [e]
    exact step_rest l _ b
theorem map_flat {α β : Type} (f : α → β) : ∀ l : List α, l.flatMap (fun a => [f a]) = l.map f
  | [] => rfl
  | a :: l => by rw [List.flatMap_cons, map_flat f l]; rfl
theorem beg_end (l : List Nat) (k : Nat) : (begB l k k).map (·.1) = combs l k := by
  rw [← beg_rest l k k (Nat.le_refl _), ← map_flat]
  refine flat_congr fun b _ => ?_
  unfold restB
  rw [Nat.sub_self, combs_zero]
  show _ = [b.1 ++ []]
  rw [List.append_nil]
theorem beg_fit (l : List Nat) (k : Nat) : ∀ t, t < k → ∀ b ∈ begB l k (t + 1), b.2 + (k - (t + 1)) ≤ l.length := fun t ht b hb => by
  obtain ⟨a, _, hb⟩ := List.mem_flatMap.mp hb
  obtain ⟨i, hi, rfl⟩ := List.mem_map.mp hb
  rw [List.mem_range'_1] at hi
  show i + 1 + _ ≤ _
  omega
theorem len_flat {α β : Type} (f : α → List β) : ∀ l : List α, (∀ a ∈ l, f a ≠ []) → l.length ≤ (l.flatMap f).length
  | [], _ => Nat.zero_le _
  | a :: l, h => by
    rw [List.flatMap_cons, List.length_append, List.length_cons]
    have h1 := len_flat f l fun b hb => h b (List.mem_cons_of_mem _ hb)
    have h2 := List.length_pos_iff.mpr (h a List.mem_cons_self)
    omega
theorem beg_len (l : List Nat) (k : Nat) : ∀ t, t ≤ k → (begB l k t).length ≤ (combs l k).length + 1
  | 0, _ => by show 1 ≤ _; omega
  | t + 1, h => by
    rw [← beg_rest l k (t + 1) h]
    refine Nat.le_succ_of_le (len_flat _ _ fun b hb => ?_)
    have := beg_fit l k t h b hb
    unfold restB
    intro e
    exact combs_ne _ _ (by rw [List.length_drop]; omega) (List.map_eq_nil_iff.mp e)
theorem beg_good (l : List Nat) (k : Nat) : ∀ t, ∀ b ∈ begB l k t, b.1.length = t ∧ b.2 ≤ l.length + 1
  | 0, b, hb => by
    rw [List.mem_singleton.mp hb]
    exact ⟨rfl, Nat.zero_le _⟩
  | t + 1, b, hb => by
    obtain ⟨a, ha, hb⟩ := List.mem_flatMap.mp hb
    obtain ⟨i, hi, rfl⟩ := List.mem_map.mp hb
    rw [List.mem_range'_1] at hi
    obtain ⟨h1, h2⟩ := beg_good l k t a ha
    exact ⟨by show (a.1 ++ _).length = _; rw [List.length_append, h1]; rfl, by show i + 1 ≤ _; omega⟩
theorem fm_le {α β : Type} (f : α → List β) : ∀ (l : List α) (i : Nat), ((l.take i).flatMap f).length ≤ (l.flatMap f).length
  | [], i => by rw [List.take_nil]; exact Nat.le_refl _
  | a :: l, 0 => Nat.zero_le _
  | a :: l, i + 1 => by
    rw [List.take_succ_cons, List.flatMap_cons, List.flatMap_cons, List.length_append, List.length_append]
    have := fm_le f l i
    omega
theorem fm_step {α β : Type} {f : α → List β} {l : List α} {i : Nat} {a : α} (h : l[i]? = some a) : (l.take (i + 1)).flatMap f = (l.take i).flatMap f ++ f a := by
  rw [List.take_add_one, h, List.flatMap_append]
  show _ ++ [a].flatMap f = _
  rw [List.flatMap_cons, List.flatMap_nil, List.append_nil]
theorem take_snoc {α : Type} {l : List α} {i : Nat} {a : α} (h : l[i]? = some a) : l.take (i + 1) = l.take i ++ [a] := by
  rw [List.take_add_one, h]
  rfl
theorem combsLen : ∀ (l : List Nat) (k : Nat), (combs l k).length = C l.length k
  | l, 0 => by rw [combs_zero]; cases l <;> rfl
  | [], k + 1 => rfl
  | x :: r, k + 1 => by
    show ((combs r k).map _ ++ combs r (k + 1)).length = C (r.length + 1) (k + 1)
    rw [List.length_append, List.length_map, combsLen r k, combsLen r (k + 1)]
    rfl
theorem combsNodup : ∀ (l : List Nat) (k : Nat), l.Nodup → (combs l k).Nodup
  | l, 0, _ => by
    rw [combs_zero]
    exact List.nodup_cons.mpr ⟨List.not_mem_nil, List.nodup_nil⟩
  | [], k + 1, _ => List.nodup_nil
  | x :: r, k + 1, h => by
    obtain ⟨h1, h2⟩ := List.nodup_cons.mp h
    refine List.nodup_append.mpr ⟨?_, combsNodup r (k + 1) h2, fun c hc d hd e => ?_⟩
    · refine List.Pairwise.map _ (fun a b hab z => hab ?_) (combsNodup r k h2)
      exact (List.cons.inj z).2
    · obtain ⟨c', _, rfl⟩ := List.mem_map.mp hc
      obtain ⟨_, g⟩ := combs_good r (k + 1) d hd
      rw [← e] at g
      exact h1 (g.subset List.mem_cons_self)
theorem ascSub : ∀ {b a : List Nat}, Asc a → Asc b → (∀ x ∈ a, x ∈ b) → a.Sublist b
  | [], [], _, _, _ => List.Sublist.slnil
  | [], x :: a, _, _, h => absurd (h x List.mem_cons_self) List.not_mem_nil
  | y :: b, [], _, _, _ => List.nil_sublist _
  | y :: b, x :: a, ha, hb, h => by
    obtain ⟨a1, a2⟩ := List.pairwise_cons.mp ha
    obtain ⟨b1, b2⟩ := List.pairwise_cons.mp hb
    by_cases e : x = y
    · subst e
      refine (ascSub a2 b2 fun z hz => ?_).cons_cons x
      rcases List.mem_cons.mp (h z (List.mem_cons_of_mem _ hz)) with rfl | h2
      · have := a1 z hz
        omega
      · exact h2
    · refine (ascSub (a := x :: a) ha b2 fun z hz => ?_).cons y
      rcases List.mem_cons.mp (h z hz) with rfl | h2
      · rcases List.mem_cons.mp hz with rfl | hz
        · exact absurd rfl e
        · have h3 := a1 z hz
          rcases List.mem_cons.mp (h x List.mem_cons_self) with h4 | h4
          · exact absurd h4 e
          · have := b1 x h4
            omega
      · exact h2
/-- all (set, server) with the server outside -/
def without (n x : Nat) : List Nat := (List.range n).filter fun y => !decide (y = x)
def allE (n sz : Nat) : List (List Nat × Nat) := (List.range n).flatMap fun x => (combs (without n x) sz).map fun c => (c, x)
theorem without_len {n x : Nat} (h : x < n) : (without n x).length = n - 1 := by
  unfold without
  have hp : ∀ l : List Nat, (l.filter fun y => !decide (y = x)).length + (l.filter fun y => decide (y = x)).length = l.length := by
    intro l
    induction l with
    | nil => rfl
    | cons a l ih =>
      by_cases e : a = x
      · rw [List.filter_cons_of_neg (by simpa using e), List.filter_cons_of_pos (by simpa using e), List.length_cons, List.length_cons]
        omega
      · rw [List.filter_cons_of_pos (by simpa using e), List.filter_cons_of_neg (by simpa using e), List.length_cons, List.length_cons]
        omega
  replace hp := hp (List.range n)
  rw [List.length_range] at hp
  have h1 : ((List.range n).filter fun y => decide (y = x)).length = 1 := by
    rw [← List.countP_eq_length_filter]
    have e : (List.range n).countP (fun y => decide (y = x)) = (List.range n).count x := by
      unfold List.count
      refine List.countP_congr fun y _ => ?_
      simp
    rw [e]
    exact List.Nodup.count List.nodup_range |>.trans (if_pos (List.mem_range.mpr h))
  omega
theorem without_asc (n x : Nat) : Asc (without n x) := List.Pairwise.filter _ (by
  have := List.pairwise_lt_range (n := n)
  exact this)
theorem flat_const {α β : Type} (f : α → List β) (k : Nat) : ∀ l : List α, (∀ a ∈ l, (f a).length = k) → (l.flatMap f).length = l.length * k
  | [], _ => by simp
  | a :: l, h => by
    rw [List.flatMap_cons, List.length_append, h a List.mem_cons_self, flat_const f k l fun b hb => h b (List.mem_cons_of_mem _ hb), List.length_cons, Nat.succ_mul]
    omega
theorem allE_len (n sz : Nat) : (allE n sz).length = n * C (n - 1) sz := by
  unfold allE
  rw [flat_const _ (C (n - 1) sz) _ fun x hx => ?_, List.length_range]
  rw [List.length_map, combsLen, without_len (List.mem_range.mp hx)]
theorem allE_mem {n sz x : Nat} {c : List Nat} (hx : x < n) (hl : c.length = sz) (ha : Asc c) (hc : ∀ y ∈ c, y < n ∧ y ≠ x) : (c, x) ∈ allE n sz := by
  refine List.mem_flatMap.mpr ⟨x, List.mem_range.mpr hx, List.mem_map.mpr ⟨c, ?_, rfl⟩⟩
  have := combs_mem (without n x) c (ascSub ha (without_asc n x) fun y hy => List.mem_filter.mpr ⟨List.mem_range.mpr (hc y hy).1, by simpa using (hc y hy).2⟩)
  rw [hl] at this
  exact this
theorem subG_len {α : Type} [DecidableEq α] : ∀ {ks ns : List α}, ks.Nodup → (∀ k ∈ ks, k ∈ ns) → ks.length ≤ ns.length
  | [], _, _, _ => Nat.zero_le _
  | k :: r, ns, h, hs => by
    have hk := hs k List.mem_cons_self
    have h1 := subG_len (ks := r) (ns := ns.erase k) (List.nodup_cons.mp h).2 fun x hx => (List.mem_erase_of_ne (fun e : x = k => (List.nodup_cons.mp h).1 (e ▸ hx))).mpr (hs x (List.mem_cons_of_mem _ hx))
    have h2 := List.length_erase_of_mem hk
    have h3 := List.length_pos_of_mem hk
    show r.length + 1 ≤ ns.length
    omega
/-! sorted -/
def srt (l : List Nat) : List Nat := l.mergeSort fun a b => decide (a ≤ b)
theorem srt_perm (l : List Nat) : (srt l).Perm l := List.mergeSort_perm l _
theorem srt_le (l : List Nat) : (srt l).Pairwise (· ≤ ·) := (List.pairwise_mergeSort (le := fun a b : Nat => decide (a ≤ b)) (fun a b c h1 h2 => by simp at *; omega) (fun a b => by simp; omega) l).imp fun h => of_decide_eq_true h
theorem srt_asc {l : List Nat} (h : l.Nodup) : Asc (srt l) := ((srt_le l).and ((srt_perm l).nodup_iff.mpr h)).imp fun ⟨a, b⟩ => by omega
theorem srt_of {l m : List Nat} (p : m.Perm l) (h : m.Pairwise (· ≤ ·)) : m = srt l :=
  List.Perm.eq_of_pairwise (le := fun a b : Nat => a ≤ b) (fun a b _ _ h1 h2 => Nat.le_antisymm h1 h2) h (srt_le l) (p.trans (srt_perm l).symm)
end Ef
namespace Ef
/-! ### the least numbers once more: common multiples of n, n - 1, .. -/
def leastP (n : Nat) : Nat → Nat
  | 0 => 1
  | d + 1 => stepL (leastP n d) (n - d)
theorem parts_ok : rowsOk (fun n d a => Nat.beq (leastP n d) a) 60 1 row0 = true := by decide +kernel
theorem leastP_eq {n d : Nat} (h1 : 1 ≤ n) (h6 : n ≤ 60) (hd : d ≤ n) : leastP n d = leastL n d :=
  Nat.eq_of_beq_eq_true (rows_all 60 1 row0 row0_is (by decide) parts_ok n h1 (by omega) h6 d hd)
theorem stepL_lcm (a b : Nat) : stepL a b = Nat.lcm a b := by
  unfold stepL Nat.lcm
  exact Nat.div_mul_right_comm (Nat.gcd_dvd_left a b) b
theorem stepL_dvd (a b c : Nat) : stepL a b ∣ c ↔ a ∣ c ∧ b ∣ c := by
  rw [stepL_lcm]
  exact ⟨fun h => ⟨Nat.dvd_trans (Nat.dvd_lcm_left a b) h, Nat.dvd_trans (Nat.dvd_lcm_right a b) h⟩, fun h => Nat.lcm_dvd h.1 h.2⟩
theorem leastP_dvd (n c : Nat) : ∀ d, leastP n d ∣ c ↔ ∀ i, i < d → (n - i) ∣ c
  | 0 => ⟨fun _ i h => absurd h (Nat.not_lt_zero i), fun _ => Nat.one_dvd c⟩
  | d + 1 => by
    show stepL (leastP n d) (n - d) ∣ c ↔ _
    rw [stepL_dvd, leastP_dvd n c d]
    constructor
    · intro h i hi
      by_cases e : i = d
      · rw [e]
        exact h.2
      · exact h.1 i (by omega)
    · intro h
      exact ⟨fun i hi => h i (by omega), h d (by omega)⟩
/-- a number is a multiple of the least one exactly if n, n - 1, .. divide it -/
theorem least_parts {n d : Nat} (h1 : 1 ≤ n) (h6 : n ≤ 60) (hd : d ≤ n) (c : Nat) : leastL n d ∣ c ↔ ∀ i, i < d → (n - i) ∣ c := by
  rw [← leastP_eq h1 h6 hd]
  exact leastP_dvd n c d
def partsV (n d : Nat) : List Nat := (List.range d).map fun i => n - i
theorem parts_at {n d i : Nat} (h : i < d) : (partsV n d)[i]? = some (n - i) := by
  unfold partsV
  rw [List.getElem?_map, List.getElem?_range h]
  rfl
theorem parts_len (n d : Nat) : (partsV n d).length = d := by
  unfold partsV
  rw [List.length_map, List.length_range]
def wdsL (n c d : Nat) : List Nat := (List.range d).map (wd n c)
theorem wds_step (n c d : Nat) : wdsL n c (d + 1) = wdsL n c d ++ [wd n c d] := by
  unfold wdsL
  rw [List.range_succ, List.map_append]
  rfl
theorem wds_len (n c d : Nat) : (wdsL n c d).length = d := by
  unfold wdsL
  rw [List.length_map, List.length_range]
/-- one step of the edges -/
theorem edge_step {n s : Nat} (h : s < n) : n * C (n - 1) s * (n - 1 - s) / (s + 1) = n * C (n - 1) (s + 1) := by
  rw [Nat.mul_assoc, ← C_step (n - 1) s (by omega), ← Nat.mul_assoc, Nat.mul_div_cancel _ (Nat.succ_pos s)]
end Ef
namespace Ef
/-! ### sets and their numbers -/
def many (k : Nat) : Nat → Nat
  | 0 => 0
  | j + 1 => C k j
theorem C_many (k j : Nat) : C (k + 1) j = many k j + C k j := by
  cases j with
  | zero => rw [C_zero, C_zero]; rfl
  | succ j => exact C_ss k j
theorem binZ_many (k j : Nat) : binZ (k : Int) ((j : Int) - 1) = (many k j : Int) := by
  cases j with
  | zero => exact if_pos (.inl (by decide))
  | succ j =>
    rw [show ((j + 1 : Nat) : Int) - 1 = (j : Int) by omega]
    exact binZ_nat k j
/-- the set with the number r among those of j of the k servers from s on -/
def unr : Nat → Nat → Nat → Nat → List Nat
  | _, 0, _, _ => []
  | s, k + 1, j, r => if r < many k j then s :: unr (s + 1) k (j - 1) r else unr (s + 1) k j (r - many k j)
/-- the number of a set among those of its size of the k servers from s on -/
def rnk : Nat → Nat → List Nat → Nat
  | _, 0, _ => 0
  | s, k + 1, ms => if ms.head? = some s then rnk (s + 1) k ms.tail else many k ms.length + rnk (s + 1) k ms
def Sub (s k : Nat) (ms : List Nat) : Prop := ms.Pairwise (· < ·) ∧ ∀ m ∈ ms, s ≤ m ∧ m < s + k
theorem unr_spec : ∀ (k s j r : Nat), r < C k j → (unr s k j r).length = j ∧ Sub s k (unr s k j r) ∧ rnk s k (unr s k j r) = r
  | 0, s, j, r, h => by
    cases j with
    | zero =>
      have h0 : r < 1 := h
      exact ⟨rfl, ⟨List.Pairwise.nil, fun m hm => absurd hm List.not_mem_nil⟩, by show 0 = r; omega⟩
    | succ j => exact absurd h (Nat.not_lt_zero _)
  | k + 1, s, j, r, h => by
    rw [C_many] at h
    by_cases c : r < many k j
    · have e : unr s (k + 1) j r = s :: unr (s + 1) k (j - 1) r := if_pos c
      cases j with
      | zero => exact absurd c (Nat.not_lt_zero _)
      | succ j =>
        obtain ⟨h1, h2, h3⟩ := unr_spec k (s + 1) j r c
        rw [e]
        refine ⟨?_, ⟨?_, ?_⟩, ?_⟩
        · show (unr (s + 1) k j r).length + 1 = j + 1
          rw [h1]
        · refine List.Pairwise.cons (fun m hm => ?_) h2.1
          have := h2.2 m hm
          omega
        · intro m hm
          rcases List.mem_cons.mp hm with rfl | hm
          · omega
          · have := h2.2 m hm
            omega
        · have e3 : rnk s (k + 1) (s :: unr (s + 1) k j r) = rnk (s + 1) k (unr (s + 1) k j r) := if_pos rfl
          exact e3.trans h3
    · have e : unr s (k + 1) j r = unr (s + 1) k j (r - many k j) := if_neg c
      obtain ⟨h1, h2, h3⟩ := unr_spec k (s + 1) j (r - many k j) (by omega)
      rw [e]
      refine ⟨h1, ⟨h2.1, fun m hm => by have := h2.2 m hm; omega⟩, ?_⟩
      have hh : ¬ (unr (s + 1) k j (r - many k j)).head? = some s := fun z => by
        have hm : s ∈ unr (s + 1) k j (r - many k j) := List.mem_of_mem_head? z
        have := h2.2 s hm
        omega
      show (if (unr (s + 1) k j (r - many k j)).head? = some s then _ else many k (unr (s + 1) k j (r - many k j)).length + rnk (s + 1) k (unr (s + 1) k j (r - many k j))) = r
      rw [if_neg hh, h1, h3]
      omega
theorem rnk_spec : ∀ (k s : Nat) (ms : List Nat), Sub s k ms → rnk s k ms < C k ms.length ∧ unr s k ms.length (rnk s k ms) = ms
  | 0, s, ms, h => by
    cases ms with
    | nil => exact ⟨Nat.one_pos, rfl⟩
    | cons m r =>
      have := h.2 m List.mem_cons_self
      omega
  | k + 1, s, ms, h => by
    by_cases c : ms.head? = some s
    · cases ms with
      | nil => cases c
      | cons m t =>
        obtain rfl : m = s := Option.some.inj c
        have ht : Sub (m + 1) k t := ⟨(List.pairwise_cons.mp h.1).2, fun x hx => by
          have h1 := (List.pairwise_cons.mp h.1).1 x hx
          have h2 := h.2 x (List.mem_cons_of_mem _ hx)
          omega⟩
        obtain ⟨h1, h2⟩ := rnk_spec k (m + 1) t ht
        have e : rnk m (k + 1) (m :: t) = rnk (m + 1) k t := if_pos rfl
        rw [e]
        have hm : rnk (m + 1) k t < many k (t.length + 1) := h1
        refine ⟨?_, ?_⟩
        · rw [C_many]
          exact Nat.lt_of_lt_of_le hm (Nat.le_add_right _ _)
        · show unr m (k + 1) (t.length + 1) (rnk (m + 1) k t) = m :: t
          have e2 : unr m (k + 1) (t.length + 1) (rnk (m + 1) k t) = m :: unr (m + 1) k t.length (rnk (m + 1) k t) := if_pos hm
          rw [e2, h2]
    · have hs : Sub (s + 1) k ms := ⟨h.1, fun x hx => by
        have h2 := h.2 x hx
        have hne : x ≠ s := fun z => by
          subst z
          cases ms with
          | nil => cases hx
          | cons m t =>
            rcases List.mem_cons.mp hx with z | hx
            · exact c (by rw [z]; rfl)
            · have h3 := (List.pairwise_cons.mp h.1).1 x hx
              have h4 := h.2 m List.mem_cons_self
              omega
        omega⟩
      obtain ⟨h1, h2⟩ := rnk_spec k (s + 1) ms hs
      have e : rnk s (k + 1) ms = many k ms.length + rnk (s + 1) k ms := if_neg c
      rw [e]
      refine ⟨by rw [C_many]; omega, ?_⟩
      have e2 : unr s (k + 1) ms.length (many k ms.length + rnk (s + 1) k ms) = unr (s + 1) k ms.length (many k ms.length + rnk (s + 1) k ms - many k ms.length) := if_neg (by omega)
      rw [e2, Nat.add_sub_cancel_left, h2]
/-! the small sets, one after the other -/
def allG (few : Nat) : Nat → List (List Nat)
  | 0 => [[]]
  | i + 1 => allG few i ++ ((allG few i).filter fun s => decide (s.length < few)).map fun s => s ++ [i]
def allS (n few : Nat) : List (List Nat) := (allG few n).filter fun s => decide (s.length = few)
def inOrder (n few : Nat) : List (List Nat) := (List.range (C n few)).map (unr 0 n few)
def codeN : List Nat → Nat
  | [] => 0
  | d :: r => d * 8 ^ r.length + codeN r
def smallOk (n few : Nat) : Bool := (allS n few).isPerm (inOrder n few) && decide ((inOrder n few).Pairwise fun a b => codeN a < codeN b)
theorem small_sets : ((List.range 6).all fun i => (List.range (i + 3)).all fun few => smallOk (i + 2) few) = true := by decide +kernel
theorem small_lens : ((List.range 6).all fun i => (List.range (i + 3)).all fun few => decide (C (i + 2) few < 64) && (allS (i + 2) few).all fun s => decide (s.length = few) && s.all fun m => decide (m < 8)) = true := by decide +kernel
theorem gen_lens : ((List.range 6).all fun i => (List.range (i + 3)).all fun few => (List.range (i + 3)).all fun t => decide ((allG few t).length ≤ 200) && (allG few t).all fun s => decide (s.length ≤ 8)) = true := by decide +kernel
theorem small_sets' {n k : Nat} (h2 : 2 ≤ n) (h7 : n ≤ 7) (hk : k ≤ n) : (allS n k).Perm (inOrder n k) ∧ (inOrder n k).Pairwise (fun a b => codeN a < codeN b) ∧ C n k < 64 ∧ ∀ s ∈ allS n k, s.length = k ∧ ∀ m ∈ s, m < 8 := by
  obtain ⟨i, rfl⟩ : ∃ i, n = i + 2 := ⟨n - 2, by omega⟩
  have h1 := List.all_eq_true.mp (List.all_eq_true.mp small_sets i (List.mem_range.mpr (by omega))) k (List.mem_range.mpr (by omega))
  unfold smallOk at h1
  rw [Bool.and_eq_true] at h1
  have h3 := List.all_eq_true.mp (List.all_eq_true.mp small_lens i (List.mem_range.mpr (by omega))) k (List.mem_range.mpr (by omega))
  rw [Bool.and_eq_true] at h3
  refine ⟨List.isPerm_iff.mp h1.1, of_decide_eq_true h1.2, of_decide_eq_true h3.1, fun s hs => ?_⟩
  have h4 := List.all_eq_true.mp h3.2 s hs
  rw [Bool.and_eq_true] at h4
  exact ⟨of_decide_eq_true h4.1, fun m hm => of_decide_eq_true (List.all_eq_true.mp h4.2 m hm)⟩
theorem gen_lens' {n k t : Nat} (h2 : 2 ≤ n) (h7 : n ≤ 7) (hk : k ≤ n) (ht : t ≤ n) : (allG k t).length ≤ 200 ∧ ∀ s ∈ allG k t, s.length ≤ 8 := by
  obtain ⟨i, rfl⟩ : ∃ i, n = i + 2 := ⟨n - 2, by omega⟩
  have h1 := List.all_eq_true.mp (List.all_eq_true.mp (List.all_eq_true.mp gen_lens i (List.mem_range.mpr (by omega))) k (List.mem_range.mpr (by omega))) t (List.mem_range.mpr (by omega))
  rw [Bool.and_eq_true] at h1
  exact ⟨of_decide_eq_true h1.1, fun s hs => of_decide_eq_true (List.all_eq_true.mp h1.2 s hs)⟩
theorem code_inj {L : List (List Nat)} (h : L.Pairwise fun a b => codeN a < codeN b) {a b : List Nat} (ha : a ∈ L) (hb : b ∈ L) (e : codeN a = codeN b) : a = b := by
  induction L with
  | nil => cases ha
  | cons x r ih =>
    obtain ⟨h1, h2⟩ := List.pairwise_cons.mp h
    rcases List.mem_cons.mp ha with e1 | ha2
    · rcases List.mem_cons.mp hb with e2 | hb2
      · rw [e1, e2]
      · have := h1 b hb2
        rw [← e1] at this
        omega
    · rcases List.mem_cons.mp hb with e2 | hb2
      · have := h1 a ha2
        rw [← e2] at this
        omega
      · exact ih h2 ha2 hb2
theorem order_unique {L M : List (List Nat)} (hM : M.Pairwise fun a b => codeN a < codeN b) (hL : L.Pairwise fun a b => codeN a ≤ codeN b) (h : L.Perm M) : L = M := by
  induction M generalizing L with
  | nil => exact List.perm_nil.mp h
  | cons x r ih =>
    cases L with
    | nil => exact absurd h.length_eq (by simp)
    | cons y t =>
      obtain ⟨h1, h2⟩ := List.pairwise_cons.mp hM
      obtain ⟨h3, h4⟩ := List.pairwise_cons.mp hL
      have hyx : y = x := by
        have hy : y ∈ x :: r := h.mem_iff.mp List.mem_cons_self
        have hx : x ∈ y :: t := h.mem_iff.mpr List.mem_cons_self
        rcases List.mem_cons.mp hy with e | hy
        · exact e
        · rcases List.mem_cons.mp hx with e | hx
          · exact e.symm
          · have h5 := h1 y hy
            have h6 := h3 x hx
            omega
      subst hyx
      rw [ih h2 h4 h.cons_inv]
end Ef
namespace Ef
open PySem PySem.Spec PyProof.Rows L2
/-! ### a call whose arguments are all given by name -/
def permL {α : Type} (perm : List Nat) (n : Nat) (us ws : List α) : List α :=
  if us.length = 0 ∧ ws.length = n then perm.filterMap (fun i => ws[i]?) else []
theorem paired_len {α β : Type} {F : α → β → Prop} : ∀ {l : List α} {m : List β}, Paired F l m → l.length = m.length
  | _, _, .nil => rfl
  | _, _, .cons _ t => congrArg (· + 1) (paired_len t)
theorem paired_at {α β : Type} {F : α → β → Prop} : ∀ {l : List α} {m : List β}, Paired F l m → ∀ i : Nat, (l[i]? = none ∧ m[i]? = none) ∨ ∃ x y, l[i]? = some x ∧ m[i]? = some y ∧ F x y
  | _, _, .nil, _ => .inl ⟨rfl, rfl⟩
  | _, _, .cons h _, 0 => .inr ⟨_, _, rfl, rfl, h⟩
  | _, _, .cons _ t, i + 1 => by
    rw [List.getElem?_cons_succ, List.getElem?_cons_succ]
    exact paired_at t i
theorem paired_pick {α β : Type} {F : α → β → Prop} {l : List α} {m : List β} (h : Paired F l m) : ∀ perm : List Nat, Paired F (perm.filterMap (fun i => l[i]?)) (perm.filterMap (fun i => m[i]?))
  | [] => .nil
  | i :: r => by
    rcases paired_at h i with ⟨e1, e2⟩ | ⟨x, y, e1, e2, f⟩
    · rw [List.filterMap_cons_none e1, List.filterMap_cons_none e2]
      exact paired_pick h r
    · rw [List.filterMap_cons_some e1, List.filterMap_cons_some e2]
      exact .cons f (paired_pick h r)
theorem permL_rel {perm : List Nat} {n : Nat} {vs zs : List V} {us ws : List Value} (r : Vals vs us) (rz : Vals zs ws) : Vals (permL perm n vs zs) (permL perm n us ws) := by
  unfold permL
  rw [paired_len r, paired_len rz]
  by_cases h : us.length = 0 ∧ ws.length = n
  · rw [if_pos h, if_pos h]
    exact paired_pick rz perm
  · rw [if_neg h, if_neg h]
    exact .nil
theorem kb_of {K : PySem.W.Frag} {fd : FuncData} {ps ks : List Str} {perm : List Nat} {n : Nat} (h0 : ps ≠ [])
    (h : ∀ ws : List Value, ws.length = n → bindArgs fd ⟨[], ks.zip ws⟩ = pure (ps.zip (perm.filterMap (fun i => ws[i]?)))) :
    KBinds K fd ps ks (permL perm n) (permL perm n) := by
  refine ⟨fun s us ws _ hl => ?_, fun r rz => permL_rel r rz⟩
  unfold permL at hl ⊢
  by_cases c : us.length = 0 ∧ ws.length = n
  · rw [if_pos c]
    have e : us = [] := List.length_eq_zero_iff.mp c.1
    subst e
    exact .of_eq (h ws c.2)
  · rw [if_neg c] at hl
    exact absurd (List.length_eq_zero_iff.mp hl.symm) h0
theorem Fun_kb {K : PySem.W.Frag} {x qual : Str} {st : Stmt} {f : Addr} {fd : FuncData} {ps ks : List Str} (perm : List Nat) (n : Nat) (F : Fun K x qual st f fd) (h0 : ps ≠ [])
    (h : ∀ (kV doc pm : Value) (an : Option Addr) (cdv ct : Value) (ws : List Value), ws.length = n → bindArgs (PySem.W.fnOf x qual (defArgs st) (defBody st) (defScope st) .none kV doc pm an cdv ct) ⟨[], ks.zip ws⟩ = pure (ps.zip (perm.filterMap (fun i => ws[i]?)))) :
    KBinds K fd ps ks (permL perm n) (permL perm n) := by
  obtain ⟨oc, od, kV, doc, pm, an, cdv, ct, osl, rfl, lk, hcd⟩ := F.ex
  exact kb_of h0 (h kV doc pm an cdv ct)
section
variable {X : Cx} {CX : CXT} {k : Nat} {f : Addr} {fd : FuncData} {ps ks : List Str} {sp : Sp} {E : XK} {x : Str} {p pos : Pos} {kws : List Keyword} {tk : TA}
variable {g : List Value → List Value → List Value} {gV : List V → List V → List V}
/-- f(k = v, ..) -/
theorem pe_kw (F : FnOk X.prog X.w X.K X.mg X.base CX k f fd ps sp) (hr : Room k X.A) (hg : Gl X x) (hm : X.mg x = some (.ref f))
    (hk : PySem.W.keepIn X.K (.ref f) = true) (hb : KBinds X.K fd ps ks g gV) (hx : Passes CX X E) (hkw : PK X kws tk)
    (a1 : (backToKw pos (keywordEach kws X.env)).all (fun z => z.1.isSome) = true := by rfl)
    (a2 : (backToKw pos (keywordEach kws X.env)).filterMap (fun z => z.1) = ks := by rfl)
    (a3 : (x == ("__debug__" : Str)) = false := by decide)
    (a4 : ((backTo pos (starEach [] X.env)).any (fun z => z.1) || (backToKw pos (keywordEach kws X.env)).any (fun z => z.1.isNone)) = false := by rfl) :
    PE X (.Call (.Name x p) [] kws pos) (tCallK sp gV E tNil tk) := by
  refine ⟨fun pins s σ H Q I h => wpAny_Call_Name_kw (ld_glob I hg hm ?_ a3)⟩
  refine PySem.W.callWith_KW0 (h₀ := X.base) I.ok.mod.kin hk a1 ?_ a4
  refine thn (hkw.run pos pins s σ H _ I h) fun ws s2 z => ?_
  obtain ⟨zs, H2, I2, rz, q2⟩ := z
  refine ⟨I2.kIn, ?_⟩
  rw [a2]
  exact run_fnk (us := []) (vs := []) F hr hb hx I2 .nil rz q2
end
/-! ### heaps -/
theorem same_new {H : Hp} {p : Addr} {o : HO} (h : H p = none) : Same H (upd H p o) := fun b x e => by
  rw [upd_ne (ne_of_none e h)]
  exact e
theorem keep_upd {H H1 : Hp} {p : Addr} {o : HO} (s : Same H H1) (h : H p = none) : Same H (upd H1 p o) := fun b x e => by
  rw [upd_ne (ne_of_none e h)]
  exact s b x e
/-- all but what stands at p is as it was -/
def But (p : Addr) (H H' : Hp) : Prop := ∀ b o, b ≠ p → H b = some o → H' b = some o
theorem But.refl (p : Addr) (H : Hp) : But p H H := fun _ _ _ e => e
theorem But.trans {p : Addr} {H H1 H2 : Hp} (s : But p H H1) (t : But p H1 H2) : But p H H2 := fun b o n e => t b o n (s b o n e)
theorem But.same {p : Addr} {H H1 H2 : Hp} (s : But p H H1) (t : Same H1 H2) : But p H H2 := fun b o n e => t b o (s b o n e)
theorem But.of {p : Addr} {H H1 : Hp} (t : Same H H1) : But p H H1 := fun b o _ e => t b o e
theorem But.upd {p : Addr} {H H1 : Hp} {o : HO} (s : But p H H1) : But p H (upd H1 p o) := fun b x n e => by
  rw [upd_ne n]
  exact s b x n e
theorem But.to {p : Addr} {H H1 : Hp} (s : But p H H1) (h : H p = none) : Same H H1 := fun b x e => s b x (ne_of_none e h) e
theorem But.seq {K : PySem.W.Frag} {p a : Addr} {H H' : Hp} {xs : List V} (e : But p H H') (n : a ≠ p) (h : SqL K H a xs) : SqL K H' a xs := by
  rcases h with (h | ⟨o, h⟩) | h
  · exact .inl (.inl (e _ _ n h))
  · exact .inl (.inr ⟨o, e _ _ n h⟩)
  · exact .inr h
end Ef
namespace Ef
open PySem PySem.Spec PyProof.Rows L2
/-! ### promises of defs that are called where no repr is under way -/
structure FnG (P : Program) (w : World) (K : PySem.W.Frag) (mg : Str → Option Value) (base : Heap) (CX : CXT) (k : Nat) (f : Addr) (fd : FuncData) (ps : List Str) (sp : Sp) : Prop where
  len : ∀ vs H Q E, sp vs H Q E → vs.length = ps.length
  run : ∀ (A : Around), A.guards = some [] → ∀ (outer : List Env) (s : Shared) (H : Hp) (args : Args) (us : List Value) (vs : List V) (Q : VK) (E : XK),
    Room k A → Env0 P w K mg base A outer s H → BindsTo s fd args (ps.zip us) → Vals vs us → sp vs H Q E →
      codeAny (model P w) A (.call (.ref f) args) (CR CX outer P w H s Q E) s
section
variable {P : Program} {w : World} {K : PySem.W.Frag} {mg : Str → Option Value} {base : Heap} {CX : CXT}
theorem FnG.of {k : Nat} {f : Addr} {fd : FuncData} {ps : List Str} {sp : Sp} (F : FnOk P w K mg base CX k f fd ps sp) : FnG P w K mg base CX k f fd ps sp :=
  ⟨F.len, fun A _ outer s H args us vs Q E => F.run A outer s H args us vs Q E⟩
theorem Fun_okG {x qual : Str} {st : Stmt} {f : Addr} {fd : FuncData} {N ps : List Str} {k : Nat} {sp : Sp} (F : Fun K x qual st f fd) (S : FnScope N ps (defScope st)) (len : ∀ vs H Q E, sp vs H Q E → vs.length = ps.length)
    (bod : ∀ (cdv : Value) (A : Around) (outer : List Env) (s : Shared) (H : Hp) (vs : List V) (Q : VK) (E : XK), A.guards = some [] → Room k (A.deeper (envOfC qual (defScope st) s.heap.objs.size f cdv)) → sp vs H Q E →
      ∃ t, PSs (cxOf CX P w K mg base N qual (defScope st) f cdv A outer s H E) (defBody st) t ∧ t { nx := fun _ H' => Q .non H', rt := Q } (start N vs) H) :
    FnG P w K mg base CX (k + 1) f fd ps sp := by
  obtain ⟨oc, od, kV, doc, pm, an, cdv, ct, osl, rfl, lk, hcd⟩ := F.ex
  refine ⟨len, fun A gd outer s H args us vs Q E room e0 bnd rel wish => ?_⟩
  have kin : K.In s.heap := e0.mod.kin.keeps fun b o z => (e0.bs b o z).1
  have nolim : s.heap.NoLimit := e0.mod.nolimit.keeps fun b o z => (e0.bs b o z).1
  refine codeAny_call_function room.depth (kin _ _ lk) rfl S.co S.gen rfl (PySem.W.codeRec_of kin hcd) (bnd _ _ _ _ ?_)
  refine wpAny_newFunctionEnv_cells S.kind ?_ fun env hev s1 ic => ?_
  · rintro ⟨n, v⟩ hy
    rcases S.par n (List.of_mem_zip hy).1 with z | z
    · exact .inl z
    · exact .inr ⟨z, PySem.W.cellsFrom_some _ _ _ (.inl z)⟩
  · subst hev
    refine ⟨nolim.keeps ic.toInCall.keep, codeAny_func ?_⟩
    obtain ⟨t, pt, rd⟩ := bod cdv A outer s H vs Q E gd (room.deeper _) wish
    have J0 := inv_start (CX := CX) (E := E) S room.hd e0 (len _ _ _ _ wish) rel ic
    refine wpAny_mono (pt.run [] s1 (start N vs) H _ J0 rd) (fun fl s' got => ?_) fun e s' got => got
    cases fl with
    | brk =>
      obtain ⟨_, _, _, z⟩ := got
      exact z.elim
    | cont =>
      obtain ⟨_, _, _, z⟩ := got
      exact z.elim
    | next =>
      obtain ⟨σ', H', J, z⟩ := got
      exact ⟨V.non, H', J.os, J.bare, J.base, J.hok, (rfl : RelV V.non Value.none), z⟩
    | ret u =>
      obtain ⟨v, σ', H', J, rv, z⟩ := got
      exact ⟨v, H', J.os, J.bare, J.base, J.hok, rv, z⟩
end
/-- the same of a def that lets no exception out -/
theorem Fun_ok0 {P : Program} {w : World} {K : PySem.W.Frag} {mg : Str → Option Value} {base : Heap} {x qual : Str} {st : Stmt} {f : Addr} {fd : FuncData} {N ps : List Str} {k : Nat} {sp : Sp} (F : Fun K x qual st f fd) (S : FnScope N ps (defScope st)) (len : ∀ vs H Q E, sp vs H Q E → vs.length = ps.length)
    (bod : ∀ (cdv : Value) (A : Around) (outer : List Env) (s : Shared) (H : Hp) (vs : List V) (Q : VK) (E : XK), A.guards = some [] → Room k (A.deeper (envOfC qual (defScope st) s.heap.objs.size f cdv)) → sp vs H Q E →
      ∃ t, PSs (cxOf CX0 P w K mg base N qual (defScope st) f cdv A outer s H E).nox (defBody st) t ∧ t { nx := fun _ H' => Q .non H', rt := Q } (start N vs) H) :
    FnG P w K mg base CX0 (k + 1) f fd ps sp :=
  Fun_okG F S len fun cdv A outer s H vs Q E gd room wish => by
    obtain ⟨t, pt, rd⟩ := bod cdv A outer s H vs Q E gd room wish
    exact ⟨t, pt.nox, rd⟩
section
variable {X : Cx} {CX : CXT} {k : Nat} {f : Addr} {fd : FuncData} {ps : List Str} {sp : Sp} {E : XK} {x : Str} {p pos : Pos} {e : Expr} {es : List Expr} {t : TA}
theorem run_G {pins : List (Addr × Obj)} {σ : L2.St} {H : Hp} {s : Shared} {Q : VK} {us : List Value} {vs : List V} (F : FnG X.prog X.w X.K X.mg X.base CX k f fd ps sp)
    (gd : X.A.guards = some []) (room : Room k X.A) (bnd : Binds X.K fd ps []) (pass : Passes CX X E) (I : Inv X pins σ H s) (rel : Vals vs us) (wish : sp vs H Q E) :
    wpAny (model X.prog X.w) X.A (call (.ref f) us) (EP X pins σ Q) X.xe s := by
  have hl : (us ++ []).length = ps.length := by
    rw [List.append_nil, ← rel.length]
    exact F.len _ _ _ _ wish
  have b1 := bnd s us I.kIn hl
  rw [List.append_nil] at b1
  refine wpAny_call (codeAny_mono (F.run X.A gd X.stack s H ⟨us, []⟩ us vs Q E room I.env0 b1 rel wish) fun res s' got => ?_)
  cases res with
  | error z => exact pass pins σ H s z s' I got
  | ok fl =>
    cases fl with
    | ret u => exact I.after got
    | next => exact got.elim
    | brk => exact got.elim
    | cont => exact got.elim
/-- f(e, ..) of a def whose promise holds where no repr is under way -/
theorem pe_callG (F : FnG X.prog X.w X.K X.mg X.base CX k f fd ps sp) (gd : X.A.guards = some []) (room : Room k X.A) (hg : Gl X x) (hm : X.mg x = some (.ref f))
    (hk : PySem.W.keepIn X.K (.ref f) = true) (bnd : Binds X.K fd ps []) (pass : Passes CX X E) (ha : PA X (e :: es) t)
    (a1 : (x == ("__debug__" : Str)) = false := by decide) (a2 : starEach (e :: es) X.env = (false, eval e X.env) :: starEach es X.env := by rfl)
    (a3 : (backTo pos (starEach es X.env)).any (fun z => z.1) = false := by rfl) :
    PE X (.Call (.Name x p) (e :: es) [] pos) (tCall sp [] E t) := by
  refine ⟨fun pins s σ H Q I h => wpAny_Call_Name_kw (ld_glob I hg hm ?_ a1)⟩
  refine PySem.W.callWith_K (h₀ := X.base) I.ok.mod.kin hk (thn (ha.run pos pins s σ H _ I h) fun us s1 z => ?_) a2 a3
  obtain ⟨vs, H1, I1, r, q⟩ := z
  rw [List.append_nil] at q
  exact ⟨I1.kIn, run_G F gd room bnd pass I1 r q⟩
end
/-! ### the law's own end, where no repr is under way -/
def scriptObj (vs : List Value) : Obj := { cls := .type "list", data := .seq vs.toArray }
def scriptHp (K : PySem.W.Frag) (a : Addr) (vs : List Value) (ns : List Int) : Hp := fun b => if b = a ∧ K.lookup a = none then some (.frz (scriptObj vs) (.lst (ns.map V.int))) else none
section
variable {K : PySem.W.Frag} {a : Addr} {vs : List Value} {ns : List Int}
theorem scriptHp_only : Only (scriptHp K a vs ns) := fun b => by
  unfold scriptHp
  by_cases c : b = a ∧ K.lookup a = none
  · exact .inr ⟨_, _, if_pos c⟩
  · exact .inl (if_neg c)
theorem scriptHp_some {b : Addr} {u : HO} (h : scriptHp K a vs ns b = some u) : b = a ∧ K.lookup a = none ∧ u = .frz (scriptObj vs) (.lst (ns.map V.int)) := by
  unfold scriptHp at h
  by_cases c : b = a ∧ K.lookup a = none
  · rw [if_pos c] at h
    exact ⟨c.1, c.2, (Option.some.inj h).symm⟩
  · rw [if_neg c] at h
    cases h
theorem scriptHp_none {b : Addr} {o : Obj} {h : Heap} (ha : h.get? a = some (scriptObj vs)) (e : h.get? b = some o) (hd : ∀ its n, o.data ≠ .seq its n) : scriptHp K a vs ns b = none := by
  cases q : scriptHp K a vs ns b with
  | none => rfl
  | some u =>
    obtain ⟨rfl, _, _⟩ := scriptHp_some q
    rw [ha] at e
    cases e
    exact absurd rfl (hd vs.toArray _)
theorem lawG {l : PySem.W.OpenLaw} {n k : Nat} {q : Program} {loose : List Str} {XP : (Str → Option Value) → Heap → Prop} {YP : World → Heap → Prop} {d : DefRec} {K : Params → PySem.W.Frag} {sp : World → Sp} {x : Str}
    (hn : l.most = some n) (hn2 : n ≤ sizeLine) (hdf : d.params.defaults = []) (room : Room k callerA)
    (hY : ∀ (w : World) (h : Heap), YP w h → (K w.params).In h)
    (F : ∀ (w : World) (mg : Str → Option Value) (fa : Addr) (h : Heap), (K w.params).In h → h.Ns mainGlobals mg → mg d.name = some (.ref fa) →
      ∃ fd : FuncData, (∀ (s : Shared) (u : Value), BindsTo s fd ⟨[u], []⟩ [(x, u)]) ∧
        ∀ base : Heap, (K w.params).In base → base.Ns mainGlobals mg → FnG l.prog w (K w.params) mg base CX0 k fa fd [x] (sp w))
    (hsp : ∀ (w : World) (H : Hp) (a : Addr) (ns : List Int), ns.length ≤ n → Only H → SqL (K w.params) H a (ns.map V.int) → sp w [.ref a] H (fun v _ => v = .bl true) fun _ _ _ => False) :
    PySem.W.WalkO q loose XP YP l.row.toRowW d [] (fun f vs => PySem.call f vs) := by
  refine Att.attach_call hn hdf fun w s₀ s₁ mg mb fa o pm cd doc a vs ns G Y ho hd hcd hmg hobj hints hlen hgen => ?_
  have kin := hY w _ Y
  obtain ⟨fd, bnd, FF⟩ := F w mg fa _ kin G.T.g hmg
  have ha : s₁.heap.get? a = some (scriptObj vs) := hobj
  have short : ns.length ≤ sizeLine := Nat.le_trans hlen hn2
  have keep0 : ∀ {b : Addr} {o : Obj}, s₁.heap.get? b = some o → scriptHp (K w.params) a vs ns b = none → (hidT s₁.heap (scriptHp (K w.params) a vs ns)).get? b = some o := fun e z => hidT_get e z
  have nsK : ∀ {b : Addr} {m : Str → Option Value}, s₁.heap.Ns b m → (hidT s₁.heap (scriptHp (K w.params) a vs ns)).Ns b m := by
    rintro b m ⟨o, es, ep, e, dd, r⟩
    exact ⟨o, es, ep, keep0 e (scriptHp_none ha e fun its n z => by rw [dd] at z; cases z), dd, r⟩
  have kinB : (K w.params).In (hidT s₁.heap (scriptHp (K w.params) a vs ns)) := fun b o e => keep0 (kin b o e) (by
    cases z : scriptHp (K w.params) a vs ns b with
    | none => rfl
    | some u =>
      obtain ⟨rfl, z2, _⟩ := scriptHp_some z
      rw [z2] at e
      cases e)
  have hM : Mod (K w.params) mg (hidT s₁.heap (scriptHp (K w.params) a vs ns)) := by
    obtain ⟨mc, h1, h2⟩ := G.T.nolimit
    exact ⟨kinB, nsK G.T.g, ⟨mb, nsK G.T.b, G.T.builtins⟩, ⟨mc, nsK h1, h2⟩⟩
  have hok : HOk l.prog w (scriptHp (K w.params) a vs ns) s₁.heap := fun b u z => by
    obtain ⟨rfl, _, rfl⟩ := scriptHp_some z
    exact ⟨ha, by rw [List.length_map]; exact short, vs, _, vals_ints hints, ha⟩
  have hS : SqL (K w.params) (scriptHp (K w.params) a vs ns) a (ns.map V.int) := by
    cases hk : (K w.params).lookup a with
    | none => exact .inl (.inr ⟨scriptObj vs, if_pos ⟨rfl, hk⟩⟩)
    | some o =>
      have e := kin a o hk
      rw [ha] at e
      obtain rfl := Option.some.inj e
      exact .inr ⟨_, vs.toArray, _, hk, rfl, rfl, rfl, by rw [List.size_toArray, hints.length]; exact short, by simpa using vals_ints hints⟩
  have e0 : Env0 l.prog w (K w.params) mg (hidT s₁.heap (scriptHp (K w.params) a vs ns)) callerA [] s₁ (scriptHp (K w.params) a vs ns) :=
    ⟨rfl, hM, fun b o e => of_hidT e, Nat.le_of_eq (hidT_size _ _), trivial, fun b z => absurd (show b ∈ ([] : List Addr) from z) (by simp), hok, .of_eq hgen⟩
  refine codeAny_mono ((FF _ kinB (nsK G.T.g)).run callerA rfl [] s₁ _ ⟨[.ref a], []⟩ [.ref a] [.ref a] _ _ room e0 (bnd s₁ (.ref a)) (.cons rfl .nil) (hsp w _ a ns hlen scriptHp_only hS)) fun r s' got => ?_
  cases r with
  | error e => exact got.elim
  | ok fl =>
    cases fl with
    | next => exact got.elim
    | brk => exact got.elim
    | cont => exact got.elim
    | ret u =>
      obtain ⟨v, H', os, bare, un, hok', rv, z⟩ := got
      obtain rfl : v = .bl true := z
      obtain rfl : u = Value.bool true := rv
      refine ⟨rfl, OldK.of_keep fun b o e => ?_, os, bare⟩
      cases z : scriptHp (K w.params) a vs ns b with
      | none => exact un.keep b o e z (fun y => absurd (show b ∈ ([] : List Addr) from y) (by simp)) (by simp)
      | some u =>
        obtain ⟨_, _, rfl⟩ := scriptHp_some z
        have z2 := un.frzs b _ _ z
        obtain ⟨e1, _⟩ := hok b _ z
        obtain ⟨e2, _⟩ := hok' b _ z2
        rw [e] at e1
        obtain rfl := Option.some.inj e1
        exact e2
end
/-! ### repr of data -/
theorem Dp_ref {K : PySem.W.Frag} {H : Hp} {v : V} {d : PyData} (h : Dp K H v d) : (∃ a, v = .ref a) ∨ (v = .non ∧ d = .none) ∨ (∃ b, v = .bl b ∧ d = .bool b) ∨ (∃ i, v = .int i ∧ d = .int i) ∨ ∃ x, v = .str x ∧ d = .str x := by
  cases h with
  | non => exact .inr (.inl ⟨rfl, rfl⟩)
  | bl b => exact .inr (.inr (.inl ⟨b, rfl, rfl⟩))
  | int i => exact .inr (.inr (.inr (.inl ⟨i, rfl, rfl⟩)))
  | str x => exact .inr (.inr (.inr (.inr ⟨x, rfl, rfl⟩)))
  | lst _ _ => exact .inl ⟨_, rfl⟩
  | tup _ _ => exact .inl ⟨_, rfl⟩
/-- data that can be shown: not deeper than dp, not heavier than wt -/
structure Sh (dp wt : Nat) (d : PyData) : Prop where
  can : d.canLay0 = true
  dep : d.depth ≤ dp
  shw : d.showable = true
  lvs : d.leavesShort 200 = true
  wgt : d.weight ≤ wt
structure ShAll (dp wt : Nat) (ds : List PyData) : Prop where
  can : PyData.canLayAll0 ds = true
  dep : PyData.depthAll ds ≤ dp
  shw : PyData.showableAll ds = true
  lvs : PyData.leavesShortAll 200 ds = true
  wgt : PyData.weightAll ds ≤ wt
theorem Sh.mono {dp wt dp' wt' : Nat} {d : PyData} (h : Sh dp wt d) (h1 : dp ≤ dp') (h2 : wt ≤ wt') : Sh dp' wt' d := ⟨h.can, Nat.le_trans h.dep h1, h.shw, h.lvs, Nat.le_trans h.wgt h2⟩
theorem ShAll.mono {dp wt dp' wt' : Nat} {ds : List PyData} (h : ShAll dp wt ds) (h1 : dp ≤ dp') (h2 : wt ≤ wt') : ShAll dp' wt' ds := ⟨h.can, Nat.le_trans h.dep h1, h.shw, h.lvs, Nat.le_trans h.wgt h2⟩
theorem Sh.none : Sh 0 0 .none := ⟨rfl, Nat.le_refl _, rfl, rfl, Nat.le_refl _⟩
theorem Sh.bool (b : Bool) : Sh 0 0 (.bool b) := ⟨rfl, Nat.le_refl _, rfl, rfl, Nat.le_refl _⟩
theorem Sh.int {b : Nat} (h0 : 0 < b) (h6 : b ≤ 600) {i : Int} (h : i.natAbs < 2 ^ b) : Sh 0 b (.int i) := by
  have l2 := PySem.Flt.log2_lt_of h0 h
  refine ⟨rfl, Nat.le_refl _, decide_eq_true (by omega), decide_eq_true ?_, ?_⟩
  · have h1 : i.natAbs < 10 ^ 199 := Nat.lt_of_lt_of_le h (Nat.le_trans (Nat.pow_le_pow_right (by decide) h6) (by decide +kernel))
    have e := int_text_length_le10 (k := 199) (by decide) h1
    show (Str.ofString (toString i)).length ≤ 200
    rw [PySem.ofString_length]
    exact e
  · show (if i == 0 then 0 else i.natAbs.log2 + 1) ≤ b
    split <;> omega
theorem Sh.tup {dp wt : Nat} {ds : List PyData} (h : ShAll dp wt ds) : Sh (dp + 1) wt (.tuple ds) := ⟨h.can, Nat.add_le_add_right h.dep 1, h.shw, h.lvs, h.wgt⟩
theorem Sh.lst {dp wt : Nat} {ds : List PyData} (h : ShAll dp wt ds) : Sh (dp + 1) wt (.list ds) := ⟨h.can, Nat.add_le_add_right h.dep 1, h.shw, h.lvs, h.wgt⟩
theorem ShAll.nil : ShAll 0 0 [] := ⟨rfl, Nat.le_refl _, rfl, rfl, Nat.le_refl _⟩
theorem ShAll.cons {dp wt wt' : Nat} {d : PyData} {ds : List PyData} (h : Sh dp wt d) (t : ShAll dp wt' ds) : ShAll dp (wt + 1 + wt') (d :: ds) := by
  refine ⟨?_, Nat.max_le.mpr ⟨h.dep, t.dep⟩, ?_, ?_, ?_⟩
  · show (d.canLay0 && PyData.canLayAll0 ds) = true
    rw [h.can, t.can]
    rfl
  · show (d.showable && PyData.showableAll ds) = true
    rw [h.shw, t.shw]
    rfl
  · show (d.leavesShort 200 && PyData.leavesShortAll 200 ds) = true
    rw [h.lvs, t.lvs]
    rfl
  · show d.weight + 1 + PyData.weightAll ds ≤ wt + 1 + wt'
    have h1 := h.wgt
    have h2 := t.wgt
    omega
theorem ShAll.ints {b : Nat} (h0 : 0 < b) (h6 : b ≤ 600) : ∀ {ns : List Int}, (∀ x ∈ ns, x.natAbs < 2 ^ b) → ShAll 0 ((b + 1) * ns.length) (ns.map PyData.int)
  | [], _ => ShAll.nil
  | x :: r, h => by
    have h1 := ShAll.cons (Sh.int h0 h6 (h x List.mem_cons_self)) (ShAll.ints h0 h6 fun y hy => h y (List.mem_cons_of_mem _ hy))
    exact h1.mono (Nat.le_refl _) (by rw [List.length_cons, Nat.mul_succ]; omega)
theorem Sh.shaped {dp wt : Nat} {d : PyData} (h : Sh dp wt d) (h1 : dp ≤ 64) : SeqAt.shaped d = true := by
  unfold SeqAt.shaped
  rw [h.can]
  exact decide_eq_true (Nat.le_trans h.dep h1)
theorem Sh.fits {dp wt : Nat} {d : PyData} (h : Sh dp wt d) (h1 : wt ≤ 80000) : d.shown.length ≤ sizeLine := by
  have h2 := PyData.shown_le 200 (by decide) d h.lvs
  have h3 := h.wgt
  have h4 : (200 + 2) * d.weight ≤ 202 * 80000 := Nat.mul_le_mul (by omega) (by omega)
  have h5 : sizeLine = 16777216 := by decide
  omega
theorem dp_ints {K : PySem.W.Frag} {H : Hp} : ∀ ns : List Int, DpAll K H (ns.map V.int) (ns.map PyData.int)
  | [] => .nil
  | n :: r => .cons (.int n) (dp_ints r)
theorem eqvAll_ints : ∀ ns : List Int, PyData.eqvAll (ns.map PyData.int) (ns.map PyData.int) = true
  | [] => rfl
  | n :: r => by
    show (PyData.eqv (.int n) (.int n) && PyData.eqvAll (r.map PyData.int) (r.map PyData.int)) = true
    rw [eqvAll_ints r]
    show ((n == n) && true) = true
    rw [beq_self_eq_true]
    rfl
section
variable {X : Cx}
/-- repr(x), x data: its text -/
theorem call_reprD (gd : X.A.guards = some []) (hu : X.A.units + 66 < cLine) : CallR X (.builtin "repr") (fun xs H Q => ∃ v d, xs = [v] ∧ Dp X.K H v d ∧ Sh 60 80000 d ∧ Q (.str d.shown) H) := by
  intro pins s σ H xs us Q I r h
  obtain ⟨v, d, rfl, hD, hd, q⟩ := h
  have hsh := hd.shaped (by decide)
  have hsz := hd.fits (by decide)
  obtain ⟨u, rfl, ru⟩ := vals1 r
  rcases Dp_ref hD with ⟨a, rfl⟩ | ⟨rfl, rfl⟩ | ⟨b, rfl, rfl⟩ | ⟨i, rfl, rfl⟩ | ⟨x, rfl, rfl⟩
  · obtain rfl : u = Value.ref a := ru
    obtain ⟨as, rd⟩ := Dp.reads I d _ _ hD rfl
    have hdp := hd.dep
    refine repr_of_reads' rd hd.shw (PyData.noDict_hsm (PyData.hasDict_of_canLay d hd.can)) gd (by omega) (fun _ _ e => e) (fun h' u tk hk => ?_) hsz
    exact ⟨.str _, H, I.kept hk, ⟨u, rfl⟩, q⟩
  · obtain rfl : u = Value.none := ru
    exact P.repr_of_none ⟨.str _, H, I.tok _, ⟨_, rfl⟩, q⟩
  · obtain rfl : u = Value.bool b := ru
    exact P.repr_of_bool ⟨.str _, H, I.tok _, ⟨_, rfl⟩, q⟩
  · obtain ⟨t, rfl⟩ := ru
    exact P.repr_of_int (of_decide_eq_true hd.shw) ⟨.str _, H, I.tok _, ⟨_, rfl⟩, q⟩
  · obtain ⟨t, rfl⟩ := ru
    exact P.repr_of_str ⟨.str _, H, I.tok _, ⟨_, rfl⟩, q⟩ hsz
/-- a ** b of greater numbers -/
theorem op_powB : OpR X (binaryOp .Pow) (rI (fun i j => 0 ≤ j ∧ (Builtin.Int.intBits i : Int) * j ≤ 2 ^ 27) fun i j => .int (i ^ j.toNat)) := opI fun _ _ _ _ _ _ _ hc q => pow_int hc.1 hc.2 q
/-- set(t), t a tuple of ints -/
theorem cr_setT (hc : X.calm = true) : CallR X (.type "set") (fun xs H Q => ∃ (l : Addr) (ns : List Int), xs = [.ref l] ∧ SqT X.K H l (ns.map V.int) ∧ ns.length ≤ 1000 ∧
    ∀ (p : Addr) (c : Nat), H p = none → Q (.ref p) (upd H p (SetO X.w p (fun j => decide (j ∈ ns)) c))) := by
  intro pins s σ H xs us Q I r h
  obtain ⟨l, ns, rfl, hq, hl, q⟩ := h
  obtain ⟨u, rfl, ru⟩ := vals1 r
  obtain rfl : u = Value.ref l := ru
  obtain ⟨its, rv, pt, hz⟩ := I.tuple hq
  refine call_set_tupI ns (I.ok.hd hc) (show s.heap.IsTuple l its.toArray from pt) (ints_of_vals rv) (by unfold scanBound; omega) fun h' tk c R1 hcn k => ?_
  exact ⟨.ref _, _, I.laid (t' := tk) k (Nat.le_refl _) (setO_new R1), rfl, q _ c (I.hok.fresh (Nat.le_refl _))⟩
end

/-! ### the same rules with the written part as a letter (for comprehensions) -/
section
variable {X : Cx} (K : PySem.W.Frag)
theorem ix_listK (h : X.K = K := by rfl) : IxR X (rIxL K) := h ▸ ix_list
theorem ix_tupK (h : X.K = K := by rfl) : IxR X (rIxT K) := h ▸ ix_tup
theorem op_inK (h : X.K = K := by rfl) : OpR X (compareOp .In) (rIn K false) := h ▸ op_in_seq
theorem op_notInK (h : X.K = K := by rfl) : OpR X (compareOp .NotIn) (rIn K true) := h ▸ op_notIn_seq
def rLenK (K : PySem.W.Frag) : List V → Hp → VK → Prop := fun xs H Q => ∃ p ys, xs = [.ref p] ∧ (SqL K H p ys ∨ SqT K H p ys) ∧ Q (.int ys.length) H
theorem call_lenK (h : X.K = K := by rfl) : CallR X (.builtin "len") (rLenK K) := h ▸ call_len_seq
def rReprK (K : PySem.W.Frag) : List V → Hp → VK → Prop := fun xs H Q => ∃ v d, xs = [v] ∧ Dp K H v d ∧ Sh 60 80000 d ∧ Q (.str d.shown) H
theorem call_reprK (gd : X.A.guards = some []) (hu : X.A.units + 66 < cLine) (h : X.K = K := by rfl) : CallR X (.builtin "repr") (rReprK K) := h ▸ call_reprD gd hu
theorem call_isiK1 (h : X.K = K := by rfl) : CallR X (.builtin "isinstance") (rIsi K) := h ▸ call_isi
def rTupleK (K : PySem.W.Frag) : List V → Hp → VK → Prop := fun xs H Q => ∃ p ys, xs = [.ref p] ∧ ((SqL K H p ys ∧ ∀ l, H l = none → Q (.ref l) (upd H l (.tup ys))) ∨ (SqT K H p ys ∧ Q (.ref p) H))
theorem call_tupleK (h : X.K = K := by rfl) : CallR X (.type "tuple") (rTupleK K) := h ▸ call_tuple_of
def rListK (K : PySem.W.Frag) : List V → Hp → VK → Prop := fun xs H Q => ∃ p ys, xs = [.ref p] ∧ (SqL K H p ys ∨ SqT K H p ys) ∧ ∀ l, H l = none → Q (.ref l) (upd H l (.lst ys))
theorem call_listK (h : X.K = K := by rfl) : CallR X (.type "list") (rListK K) := h ▸ call_list_of
theorem op_eqDK (hu : X.A.units + 64 < cLine) (h : X.K = K := by rfl) : OpR X (compareOp .Eq) (rEqD K) := h ▸ op_eqD hu
theorem op_neDK (hu : X.A.units + 64 < cLine) (h : X.K = K := by rfl) : OpR X (compareOp .NotEq) (rNeD K) := h ▸ op_neD hu
end
end Ef
namespace Ef
open PySem PySem.Spec PyProof.Rows L2
/-! ### tuples: sums, parts, the other way round -/
theorem Same.seqT {K : PySem.W.Frag} {H H' : Hp} {a : Addr} {xs : List V} (e : Same H H') (h : SqT K H a xs) : SqT K H' a xs := by
  rcases h with (h | ⟨o, h⟩) | h
  · exact .inl (.inl (e _ _ h))
  · exact .inl (.inr ⟨o, e _ _ h⟩)
  · exact .inr h
theorem But.seqT {K : PySem.W.Frag} {p a : Addr} {H H' : Hp} {xs : List V} (e : But p H H') (n : ∀ o, H p = some o → a = p → False) (h : SqT K H a xs) : SqT K H' a xs := by
  rcases h with (h | ⟨o, h⟩) | h
  · exact .inl (.inl (e _ _ (fun z => n _ (z ▸ h) z) h))
  · exact .inl (.inr ⟨o, e _ _ (fun z => n _ (z ▸ h) z) h⟩)
  · exact .inr h
/-- t + u -/
def rCatS (K : PySem.W.Frag) : R2 := fun x y H Q => ∃ a b xs ys, x = .ref a ∧ y = .ref b ∧ SqT K H a xs ∧ SqT K H b ys ∧ xs.length + ys.length ≤ sizeLine ∧ ∀ p H', Same H H' → SqT K H' p (xs ++ ys) → Q (.ref p) H'
/-- t[lo:hi] -/
def rSlS (K : PySem.W.Frag) : V → Option Int → Option Int → Hp → VK → Prop := fun x lo hi H Q => ∃ a xs, x = .ref a ∧ SqT K H a xs ∧ ∀ p H', Same H H' → SqT K H' p (cutV xs lo hi) → Q (.ref p) H'
theorem cut_whole {xs : List V} {lo hi : Option Int} (h : HT.sIx xs.length 0 lo = 0 ∧ HT.sIx xs.length xs.length hi = xs.length) : cutV xs lo hi = xs := by
  unfold cutV
  rw [h.1, h.2]
  show (xs.drop 0).take (xs.length - 0) = xs
  rw [List.drop_zero, Nat.sub_zero]
  exact List.take_length
section
variable {X : Cx} (K : PySem.W.Frag)
theorem op_catS (h : X.K = K := by rfl) : OpR X (binaryOp .Add) (rCatS K) := by
  subst h
  intro pins s σ H x y v u Q I rx ry h
  obtain ⟨a, b, xs, ys, rfl, rfl, ha, hb, hz, q⟩ := h
  refine op_catA pins s σ H _ _ v u Q I rx ry ⟨a, b, xs, ys, rfl, rfl, ha, hb, hz, fun z => ?_, fun _ z => ?_, fun _ _ p np => ?_⟩
  · subst z
    exact q b H (Same.refl H) hb
  · subst z
    refine q a H (Same.refl H) ?_
    rw [List.append_nil]
    exact ha
  · exact q p _ (same_new np) (SqT.of upd_same)
theorem sl_tupS (h : X.K = K := by rfl) : SlR X (rSlS K) := by
  subst h
  intro pins s σ H x v vl vu lo hi sl Q I rx hs pl pu h
  obtain ⟨a, xs, rfl, hx, q⟩ := h
  refine sl_tupA pins s σ H _ v vl vu lo hi sl Q I rx hs pl pu ⟨a, xs, rfl, hx, fun z => ?_, fun _ p np => ?_⟩
  · refine q a H (Same.refl H) ?_
    rw [cut_whole z]
    exact hx
  · exact q p _ (same_new np) (SqT.of upd_same)
end
theorem fm_congr {α β : Type} {f g : α → Option β} : ∀ l : List α, (∀ x ∈ l, f x = g x) → l.filterMap f = l.filterMap g
  | [], _ => rfl
  | x :: r, h => by
    have h1 := h x List.mem_cons_self
    have h2 := fm_congr r fun y hy => h y (List.mem_cons_of_mem _ hy)
    cases e : f x with
    | none => rw [List.filterMap_cons_none e, List.filterMap_cons_none (h1 ▸ e), h2]
    | some b => rw [List.filterMap_cons_some e, List.filterMap_cons_some (h1 ▸ e), h2]
theorem range_pick {α : Type} : ∀ (n : Nat) (ys : List α), ys.length = n → (List.range n).filterMap (fun m => ys[m]?) = ys
  | 0, ys, h => by
    rw [List.length_eq_zero_iff.mp h]
    rfl
  | n + 1, ys, h => by
    have hne : ys ≠ [] := fun z => by
      rw [z] at h
      cases h
    have hl : ys.dropLast.length = n := by
      rw [List.length_dropLast]
      omega
    have e : ys = ys.dropLast ++ [ys.getLast hne] := (List.dropLast_concat_getLast hne).symm
    rw [List.range_succ, List.filterMap_append]
    have e1 : (List.range n).filterMap (fun m => ys[m]?) = ys.dropLast := by
      have e3 : (List.range n).filterMap (fun m => ys[m]?) = (List.range n).filterMap (fun m => ys.dropLast[m]?) := by
        refine fm_congr _ fun m hm => ?_
        have hm' : m < ys.dropLast.length := by
          rw [hl]
          exact List.mem_range.mp hm
        have e4 : (ys.dropLast ++ [ys.getLast hne])[m]? = ys.dropLast[m]? := List.getElem?_append_left hm'
        rw [← e4, List.dropLast_concat_getLast hne]
      rw [e3]
      exact range_pick n ys.dropLast hl
    have e2 : [n].filterMap (fun m => ys[m]?) = [ys.getLast hne] := by
      have : ys[n]? = some (ys.getLast hne) := by
        rw [List.getLast_eq_getElem hne, ← List.getElem?_eq_getElem]
        congr 1
        omega
      rw [List.filterMap_cons_some this]
      rfl
    rw [e1, e2]
    exact e.symm
theorem pick_back (xs : Array Value) : ((List.range xs.size).filterMap fun (m : Nat) => xs[(((xs.size : Int) - 1) + (m : Int) * (-1)).toNat]?).toArray = xs.toList.reverse.toArray := by
  congr 1
  have h : xs.toList.reverse.length = xs.size := by
    rw [List.length_reverse, Array.length_toList]
  rw [← range_pick xs.size xs.toList.reverse h]
  refine fm_congr _ fun m hm => ?_
  have hm' : m < xs.size := List.mem_range.mp hm
  have e : (((xs.size : Int) - 1) + (m : Int) * (-1)).toNat = xs.size - 1 - m := by omega
  rw [e, List.getElem?_reverse (by rw [Array.length_toList]; exact hm'), Array.length_toList, Array.getElem?_toList]
section
variable {prog : Program} {w : World} {A : Around} {E : Value → Shared → Prop} {s : Shared}
theorem tuple_back {t sl : Addr} {items : Array Value} {vl vu vs : Value} {Q : Value → Shared → Prop} (ht : IsTup s.heap t items) (hs : s.heap.IsSliceOf sl vl vu vs) (pl : PySem.IsPart vl none) (pu : PySem.IsPart vu none) (ps : PySem.IsPart vs (some (-1)))
    (h : Q (.ref s.heap.objs.size) { s with heap := s.heap.push { cls := .type "tuple", data := .seq items.toList.reverse.toArray } })
    (hsz : items.size ≤ sizeLine) : wpAny (model prog w) A (getItem (.ref t) (.ref sl)) Q E s := by
  have hfit : sizeOk (.seq items.toList.reverse.toArray) := by
    show items.toList.reverse.toArray.size ≤ sizeLine
    rw [List.size_toArray, List.length_reverse, Array.length_toList]
    exact hsz
  obtain ⟨os, hos, hcs, hds⟩ := id hs
  have tys : s.TypeIs (.ref sl) "slice" := ⟨os, hos, hcs⟩
  unfold getItem
  try with_reducible refine wpAny_holding ?_
  first | refine wpAny_bind (wpAny_pure ?_) | skip
  refine wpAny_bind (wpAny_sequenceKey ht.typeIs (by decide) ?_)
  refine wpAny_bind (wpAny_callSpecial?_slot (name := Str.ofString "__getitem__") ht.typeIs PyProof.Rows.slot_tuple_getitem
    (wpAny_call_entry PyProof.Rows.slot_tuple_getitem ht.typeIs PyProof.Rows.entry_tuple_getitem ?_ (PyProof.Rows.args_tuple_getitem _ _)))
  show wpAny _ _ (Builtin.Tuple.tupleItemsOf (.ref t) >>= _) _ _ s
  refine wpAny_bind (PyProof.Rows.tupleItemsOf_ ht ?_)
  refine wpAny_bind (wpAny_typeOf tys ?_)
  rw [if_pos (by decide)]
  have look : ∀ {B : Around} {E : Value → Shared → Prop} {R : Int × Int × Nat → Shared → Prop}, R (((items.size : Int) - 1), -1, items.size) s → wpAny (model prog w) B (Builtin.Slice.sliceApplied (.ref sl) (pure (items.size : Int))) R E s := fun {B E R} hR => by
    unfold Builtin.Slice.sliceApplied Builtin.Slice.sliceFields
    refine wpAny_bind (wpAny_bind (wpAny_field hos hds (x := vl) rfl (wpAny_bind (wpAny_field hos hds (x := vu) rfl (wpAny_bind (wpAny_field hos hds (x := vs) rfl (wpAny_pure ?_)))))))
    refine wpAny_bind (HT.slicePart_ ps ?_)
    show wpAny _ _ (if ((-1 : Int) == 0) = true then _ else _) _ _ s
    rw [if_neg (by decide)]
    refine wpAny_bind (HT.slicePart_ pl (wpAny_bind (HT.slicePart_ pu (wpAny_bind (wpAny_pure ?_)))))
    show wpAny _ _ (pure (((items.size : Int) - 1), (-1 : Int), Builtin.Slice.slicePlaces ((items.size : Int) - 1) (-1) (-1))) _ _ s
    have e : Builtin.Slice.slicePlaces ((items.size : Int) - 1) (-1) (-1) = items.size := by
      unfold Builtin.Slice.slicePlaces
      rw [if_neg (by decide)]
      by_cases c : ((items.size : Int) - 1) > -1
      · rw [if_pos c, show -(-1 : Int) = 1 from rfl, Int.ediv_one]
        omega
      · rw [if_neg c]
        omega
    rw [e]
    exact wpAny_pure hR
  refine wpAny_bind (look ?_)
  have no : ¬ ((((items.size : Int) - 1) == 0 && (-1 : Int) == 1 && items.size == items.size) = true) := by
    intro z
    rw [Bool.and_eq_true, Bool.and_eq_true] at z
    exact absurd z.1.2 (by decide)
  show wpAny _ _ (if (((items.size : Int) - 1) == 0 && (-1 : Int) == 1 && items.size == items.size) = true then _ else _) _ _ s
  rw [if_neg no, pick_back]
  first
    | exact wpAny_bind (m := Builtin.Tuple.tupleExact _) (wpAny_newObj_type (wpAny_pure ⟨_, rfl, wpAny_pure h⟩) hfit)
    | exact wpAny_bind (m := Builtin.Tuple.tupleExact _) (wpAny_newObj_type (wpAny_bind (wpAny_pure (wpAny_pure ⟨_, rfl, wpAny_pure h⟩))) hfit)
    | exact wpAny_bind (wpAny_bind (m := Builtin.Tuple.tupleExact _) (wpAny_newObj_type (wpAny_pure (wpAny_pure ⟨_, rfl, wpAny_pure h⟩)) hfit))
    | exact wpAny_bind (wpAny_bind (m := Builtin.Tuple.tupleExact _) (wpAny_newObj_type (wpAny_pure ⟨_, rfl, wpAny_pure h⟩) hfit))
end
/-! ### t[::-1] -/
def tRevT (K : PySem.W.Frag) (te : TE) : TE := fun σ H Q => te σ H fun x H1 => ∃ a xs, x = .ref a ∧ SqT K H1 a xs ∧ ∀ p, H1 p = none → Q (.ref p) (upd H1 p (.tup xs.reverse))
theorem pe_revT {X : Cx} {e : Expr} {te : TE} {k : Nat} {p1 p2 p3 pos : Pos} (he : PE X e te) : PE X (.Subscript e (.Slice none none (some (.UnaryOp .USub (.Constant (.int 1) k p1) p2)) p3) pos) (tRevT X.K te) := by
  refine ⟨fun pins s σ H Q I h => ?_⟩
  refine Subscript_ (thn (he.run pins s σ H _ I h) fun v s1 z1 => ?_)
  obtain ⟨x, H1, I1, r1, a, xs, ex, hx, q⟩ := z1
  subst ex
  cases r1
  have hst : PO X (some (.UnaryOp .USub (.Constant (.int 1) k p1) p2)) (tPart (tUn (rU fun i => .int (-i)) (tC (.int 1)))) := po_some (pe_un un_neg pe_int)
  refine wpAny_Slice (thn (po_none.run pins s1 σ H1 (fun o H2 => o = none ∧ H2 = H1) I1 ⟨rfl, rfl⟩) fun vl s2 z2 => ?_)
  obtain ⟨l, H2, I2, pl, rfl, rfl⟩ := z2
  refine thn (po_none.run pins s2 σ H2 (fun o H3 => o = none ∧ H3 = H2) I2 ⟨rfl, rfl⟩) fun vu s3 z3 => ?_
  obtain ⟨u, H3, I3, pu, rfl, rfl⟩ := z3
  refine thn (hst.run pins s3 σ H3 (fun o H4 => o = some (-1) ∧ H4 = H3) I3 ⟨1, rfl, -1, rfl, rfl, rfl⟩) fun vs s4 z4 => ?_
  obtain ⟨o, H4, I4, ps, rfl, rfl⟩ := z4
  have I5 : Inv X pins σ H4 { s4 with heap := s4.heap.push { cls := .type "slice", data := .fields #[vl, vu, vs] } } := I4.kept (t' := s4.toks) fun b ob z => Heap.get?_push_of_some _ z
  obtain ⟨its, r, ht, hz⟩ := I5.tuple hx
  show wpAny (model X.prog X.w) X.A (subscriptTail e (.Slice none none (some (.UnaryOp .USub (.Constant (.int 1) k p1) p2)) p3) (.ref a) (.ref s4.heap.objs.size)) (EP X pins σ Q) X.xe _
  refine tail_any (ops := [.ref a, .ref s4.heap.objs.size]) ht.typeIs (PyProof.Rows.slot_tuple_getitem.lookup) ?_ (by with_unfolding_all rfl)
  refine tuple_back ht (Heap.IsSliceOf.new _ vl vu vs) pl pu ps ?_ (by rw [List.size_toArray, ← r.length]; exact hz)
  refine ⟨.ref _, _, I5.laid (t' := s4.toks) (o := .tup xs.reverse) (fun b ob z => Heap.get?_push_of_some _ z) (Nat.le_refl _) ?_, rfl, q _ (I5.hok.fresh (Nat.le_refl _))⟩
  exact ⟨by rw [List.length_reverse]; exact hz, _, r.reverse, IsTup.new _ _⟩
end Ef
namespace Ef
open PySem PySem.Spec PyProof.Rows L2
/-! ### values of all sorts -/
mutual
theorem Dp.mono {K : PySem.W.Frag} {H H' : Hp} (s : Same H H') : ∀ {v : V} {d : PyData}, Dp K H v d → Dp K H' v d
  | _, _, .non => .non
  | _, _, .bl b => .bl b
  | _, _, .int i => .int i
  | _, _, .str x => .str x
  | _, _, .lst h t => .lst (s.seq h) (DpAll.mono s t)
  | _, _, .tup h t => .tup (Same.seqT s h) (DpAll.mono s t)
theorem DpAll.mono {K : PySem.W.Frag} {H H' : Hp} (s : Same H H') : ∀ {vs : List V} {ds : List PyData}, DpAll K H vs ds → DpAll K H' vs ds
  | _, _, .nil => .nil
  | _, _, .cons h t => .cons (Dp.mono s h) (DpAll.mono s t)
end
theorem DpAll.app {K : PySem.W.Frag} {H : Hp} : ∀ {xs ys : List V} {ds es : List PyData}, DpAll K H xs ds → DpAll K H ys es → DpAll K H (xs ++ ys) (ds ++ es)
  | _, _, _, _, .nil, t => t
  | _, _, _, _, .cons h r, t => .cons h (DpAll.app r t)
theorem dpAll_at {K : PySem.W.Frag} {H : Hp} : ∀ {xs : List V} {ds : List PyData}, DpAll K H xs ds → ∀ {i : Nat} {x : V}, xs[i]? = some x → ∃ d, ds[i]? = some d ∧ Dp K H x d
  | _, _, .nil, _, _, h => by cases h
  | _, _, .cons h _, 0, x, e => ⟨_, rfl, by rw [← Option.some.inj e]; exact h⟩
  | _, _, .cons _ t, i + 1, x, e => by
    rw [List.getElem?_cons_succ] at e ⊢
    exact dpAll_at t e
theorem dpAll_len {K : PySem.W.Frag} {H : Hp} : ∀ {xs : List V} {ds : List PyData}, DpAll K H xs ds → ds.length = xs.length
  | _, _, .nil => rfl
  | _, _, .cons _ t => congrArg (· + 1) (dpAll_len t)
theorem ShAll.app {dp w1 w2 : Nat} : ∀ {ds es : List PyData}, ShAll dp w1 ds → ShAll dp w2 es → ShAll dp (w1 + w2) (ds ++ es)
  | [], es, _, t => t.mono (Nat.le_refl _) (by omega)
  | d :: r, es, h, t => by
    have hc : (d.canLay0 && PyData.canLayAll0 r) = true := h.can
    have hs : (d.showable && PyData.showableAll r) = true := h.shw
    have hl : (d.leavesShort 200 && PyData.leavesShortAll 200 r) = true := h.lvs
    have hw : d.weight + 1 + PyData.weightAll r ≤ w1 := h.wgt
    have hd : max d.depth (PyData.depthAll r) ≤ dp := h.dep
    rw [Bool.and_eq_true] at hc hs hl
    rw [Nat.max_le] at hd
    have h1 : Sh dp d.weight d := ⟨hc.1, hd.1, hs.1, hl.1, Nat.le_refl _⟩
    have h2 : ShAll dp (PyData.weightAll r) r := ⟨hc.2, hd.2, hs.2, hl.2, Nat.le_refl _⟩
    exact (ShAll.cons h1 (ShAll.app h2 t)).mono (Nat.le_refl _) (by omega)
/-- all but what stands at p -/
def hide (p : Addr) (H : Hp) : Hp := fun b => if b = p then none else H b
theorem hide_ne {p b : Addr} {H : Hp} (n : b ≠ p) : hide p H b = H b := if_neg n
theorem hide_same (p : Addr) (H : Hp) : Same (hide p H) H := fun b o e => by
  by_cases c : b = p
  · unfold hide at e
    rw [if_pos c] at e
    cases e
  · rw [hide_ne c] at e
    exact e
theorem But.hide {p : Addr} {H H' : Hp} (s : But p H H') : Same (Ef.hide p H) (Ef.hide p H') := fun b o e => by
  by_cases c : b = p
  · unfold Ef.hide at e
    rw [if_pos c] at e
    cases e
  · rw [hide_ne c] at e ⊢
    exact s b o c e
theorem hide_lst {K : PySem.W.Frag} {p a : Addr} {H : Hp} {xs : List V} (n : a ≠ p) (h : H a = some (.lst xs)) : SqL K (hide p H) a xs := SqL.of (by rw [hide_ne n]; exact h)
theorem hide_tup {K : PySem.W.Frag} {p a : Addr} {H : Hp} {xs ys : List V} (hp : H p = some (.lst ys)) (h : SqT K H a xs) : SqT K (hide p H) a xs := by
  rcases h with (h | ⟨o, h⟩) | h
  · have n : a ≠ p := fun z => by
      rw [z, hp] at h
      cases h
    exact .inl (.inl (by rw [hide_ne n]; exact h))
  · have n : a ≠ p := fun z => by
      rw [z, hp] at h
      cases h
    exact .inl (.inr ⟨o, by rw [hide_ne n]; exact h⟩)
  · exact .inr h
/-- data, or an empty dict -/
def ItemV (K : PySem.W.Frag) (H : Hp) (v : V) (d : PyData) : Prop := (Dp K H v d ∧ Sh 60 80000 d) ∨ (d = .dict [] ∧ ∃ p, v = .ref p ∧ H p = some (.dK []))
theorem ItemV.mono {K : PySem.W.Frag} {H H' : Hp} {v : V} {d : PyData} (s : Same H H') (h : ItemV K H v d) : ItemV K H' v d := by
  rcases h with ⟨h, h2⟩ | ⟨e, p, e2, h⟩
  · exact .inl ⟨Dp.mono s h, h2⟩
  · exact .inr ⟨e, p, e2, s _ _ h⟩
def tyN : PyData → String
  | .none => "NoneType"
  | .bool _ => "bool"
  | .int _ => "int"
  | .str _ => "str"
  | .list _ => "list"
  | .tuple _ => "tuple"
  | .dict _ => "dict"
theorem Dp.ty {K : PySem.W.Frag} {H : Hp} {v : V} {d : PyData} (h : Dp K H v d) : TyX K H v (.type (tyN d)) := by
  cases h with
  | non => exact .base .non
  | bl b => exact .base (.bl b)
  | int i => exact .base (.int i)
  | str x => exact .base (.str x)
  | lst h _ =>
    rcases h with (h | ⟨o, h⟩) | ⟨o, its, n, h1, h2, _⟩
    · exact .base (.lst h)
    · exact .base (.frz h)
    · exact .kList h1 h2
  | tup h _ =>
    rcases h with (h | ⟨o, h⟩) | ⟨o, its, n, h1, h2, _⟩
    · exact .base (.tup h)
    · exact .fTuple h
    · exact .kTuple h1 h2
theorem ItemV.ty {K : PySem.W.Frag} {H : Hp} {v : V} {d : PyData} (h : ItemV K H v d) : TyX K H v (.type (tyN d)) := by
  rcases h with ⟨h, _⟩ | ⟨rfl, p, rfl, h⟩
  · exact Ef.Dp.ty h
  · exact .base (.dK h)
section
variable {X : Cx} (K : PySem.W.Frag)
def rReprI (K : PySem.W.Frag) : List V → Hp → VK → Prop := fun xs H Q => ∃ v d, xs = [v] ∧ ItemV K H v d ∧ Q (.str d.shown) H
theorem call_reprI (gd : X.A.guards = some []) (hu : X.A.units + 66 < cLine) (h : X.K = K := by rfl) : CallR X (.builtin "repr") (rReprI K) := by
  subst h
  intro pins s σ H xs us Q I r h
  obtain ⟨v, d, rfl, hI, q⟩ := h
  rcases hI with ⟨hD, hS⟩ | ⟨rfl, p, rfl, hp⟩
  · exact call_reprD gd hu pins s σ H _ us Q I r ⟨v, d, rfl, hD, hS, q⟩
  · obtain ⟨u, rfl, ru⟩ := vals1 r
    obtain rfl : u = Value.ref p := ru
    obtain ⟨_, hsys, vs, kv, o, es, ep, ho, hx, hd, hk, hpr, hn⟩ := dk_of I.hok hp
    have e1 : vs = [] := by
      cases kv
      rfl
    subst e1
    have e2 : es.toList = [] := by
      generalize es.toList = l at hpr ⊢
      cases hpr
      rfl
    have dep : PyData.depth (.dict []) ≤ 2 := by decide
    have rd : Reads s.heap (.ref p) (.dict []) (p :: [] ++ []) := by
      refine .dict ho hx.1 hd ?_ ?_
      · rw [e2]
        exact .nil
      · rw [e2]
        exact .nil
    refine repr_of_reads' rd rfl (fun _ hm => ?_) gd (by omega) (fun _ _ e => e) (fun h' u tk hk => ?_) (by decide +kernel)
    · have e3 : sysModules = p := by simpa using hm
      rw [← e3] at hsys
      exact absurd hsys (by simp)
    · exact ⟨.str _, H, I.kept hk, ⟨u, rfl⟩, q⟩
end
end Ef
set_option maxHeartbeats 4000000
namespace Ef
open PySem PySem.Spec PyProof.Rows L2
/-! ### sum of a list, of a tuple of whole numbers -/
theorem cr_sumK {X : Cx} (K : PySem.W.Frag) (hc : X.calm = true := by rfl) (h : X.K = K := by rfl) : CallR X (.builtin "sum") (rSum K) := by
  subst h
  exact cr_sum hc
def rSumT (K : PySem.W.Frag) : List V → Hp → VK → Prop := fun vs H Q => ∃ (a : Addr) (ns : List Int), vs = [V.ref a] ∧ SqT K H a (ns.map V.int) ∧ Q (.int ns.sum) H
theorem cr_sumT {X : Cx} (K : PySem.W.Frag) (hc : X.calm = true := by rfl) (h : X.K = K := by rfl) : CallR X (.builtin "sum") (rSumT K) := by
  subst h
  intro pins s σ H vs us Q I r h
  obtain ⟨a, ns, rfl, hs, q⟩ := h
  obtain ⟨its, rv, hl, _⟩ := I.tuple hs
  rw [Vals.ref1 r]
  have hi := rv.ints
  obtain ⟨xs, hx⟩ := hi.allInts.items
  have hn : numsOf its.toArray.toList = ns := by rw [show its.toArray.toList = its from rfl, hi.numsOf]
  rw [hx] at hl hn
  rw [nums_intItems] at hn
  refine PySem.W.ktm_sumG (I.ok.hd hc) hl fun h' tk t' hk => ?_
  rw [preSum_eq, List.take_of_length_le (by simp), hn]
  exact ⟨.int _, H, I.kept hk, ⟨_, rfl⟩, q⟩
end Ef
set_option maxHeartbeats 4000000
namespace Ef
open PySem PySem.Spec PyProof.Rows L2
/-! ### Base.__init__(self, ..) where Base is an own class without an __init__ of its own -/
section
variable {X : Cx} {e : Expr} {es : List Expr} {ta : TA} {x : Str} {p1 p2 pos : Pos} {B : Addr}
theorem pe_baseInit {pl : Sem Bool} (hg : Gl X x) (hm : X.mg x = some (.ref B))
    (h1 : PySem.W.specialIn X.K (.ref B) "__getattribute__" = some (some (.builtin "type.__getattribute__")))
    (h2 : PySem.W.typeIn X.K (.ref B) = some (.type "type")) (h3 : PySem.W.readsIn X.K B (.type "type") = true)
    (h4 : PySem.W.findCls X.K (.ref B) (.type "type") "__init__" = some (.val (.builtin "ValueError.__init__"))) (ha : PA X (e :: es) ta)
    (a1 : eval (.Call (.Attribute (.Name x p1) "__init__" p2) (e :: es) [] pos) X.env = (do
      let bv ← eval (.Name x p1) X.env
      standAt p2.atName
      let (g, first) ← holding [bv] (getMethod bv "__init__" pl)
      callWith pos g first (backTo pos (starEach (e :: es) X.env)) (backToKw pos (keywordEach [] X.env))) := by rfl)
    (a2 : starEach (e :: es) X.env = (false, eval e X.env) :: starEach es X.env := by rfl)
    (a3 : (backTo pos (starEach es X.env)).any (fun z => z.1) = false := by rfl) (a4 : (x == ("__debug__" : Str)) = false := by decide) :
    PE X (.Call (.Attribute (.Name x p1) "__init__" p2) (e :: es) [] pos) (tVeI X.K ta) := by
  refine ⟨fun pins s σ H Q I h => ?_⟩
  refine PySem.W.methodCall_KW (ld_glob I hg hm ?_ a4) a1
  obtain ⟨m, fr⟩ := I.fr
  refine PySem.W.method_of_cls fr I.ok.mod.kin h1 ?_
  refine PySem.W.cls_val fr I.ok.mod.kin h2 h3 h4 (by decide +kernel) ?_
  show wpAny _ _ (callWith pos (Value.builtin "ValueError.__init__") [] (backTo pos (starEach (e :: es) X.env)) []) _ _ _
  refine PyProof.Rows.callWith_method1 (thn (ha.run pos pins _ σ H _ (I.tok _) h) fun us s1 got => ?_) a2 a3
  obtain ⟨vs, H1, I1, r1, a, C, ws, rfl, hl, T, ea, q⟩ := got
  cases r1 with
  | @cons _ u0 _ ur ra rest =>
    obtain rfl : u0 = Value.ref a := ra
    refine oinit_ok T I1 ea ?_ fun s' J => ⟨.non, H1, J, rfl, q⟩
    have hl2 := Paired.length rest
    rw [sizeLine_eq]
    omega
end
/-! ### an exception that is kept as a value -/
/-- at a: an exception of the class cls, its dict at d -/
def exk (a : Addr) (cls : Value) (d : Option Addr) : HO := .ext fun h => ∃ oe vs, h.get? a = some oe ∧ oe.cls = cls ∧ oe.dict = d ∧ oe.data = .fields vs
theorem exk_ok {P : Program} {w : World} {H : Hp} {h : Heap} {a : Addr} {cls : Value} {d : Option Addr} {oe : Obj} {vs : Array Value} (he : h.get? a = some oe) (hc : oe.cls = cls) (hd : oe.dict = d) (hv : oe.data = .fields vs) : ObjOk P w H h a (exk a cls d) :=
  ⟨⟨oe, vs, he, hc, hd, hv⟩, ⟨oe, he⟩, fun h1 h2 z k => by
    obtain ⟨o, v, z1, z2⟩ := z
    exact ⟨o, v, k _ z1, z2⟩⟩
theorem exk_at {P : Program} {w : World} {H : Hp} {h : Heap} {a : Addr} {cls : Value} {d : Option Addr} (hok : HOk P w H h) (e : H a = some (exk a cls d)) : ∃ oe vs, h.get? a = some oe ∧ oe.cls = cls ∧ oe.dict = d ∧ oe.data = .fields vs := by
  have z : ObjOk P w H h a (.ext fun h => ∃ oe vs, h.get? a = some oe ∧ oe.cls = cls ∧ oe.dict = d ∧ oe.data = .fields vs) := hok a _ e
  exact z.1
theorem Inv_track {X : Cx} {pins : List (Addr × Obj)} {σ : L2.St} {H : Hp} {s : Shared} {a : Addr} {oe : Obj} {vs : Array Value} {cls : Value} {d : Option Addr} (I : L2.Inv X ((a, oe) :: pins) σ H s)
    (hc : oe.cls = cls) (hd : oe.dict = d) (hv : oe.data = .fields vs) (new : X.s_0.heap.get? a = none) (hp : ∀ p ∈ X.pn ++ pins, p.1 ≠ a) : L2.Inv X pins σ (upd H a (exk a cls d)) s := by
  obtain ⟨ha, na, nL, nF, nc⟩ := I.pin (a, oe) (List.mem_append_right _ List.mem_cons_self)
  have kp : ∀ {b : Addr} {u : HO}, H b = some u → upd H a (exk a cls d) b = some u := fun {b u} z => by
    rw [upd_ne (ne_of_none z na)]
    exact z
  refine ⟨I.ok, I.os, I.bare, ⟨I.base.keep, I.base.slot, fun b o z n hx => ?_, I.base.there, fun b xs z => kp (I.base.tups b xs z), fun b o u z => kp (I.base.frzs b o u z), fun b ps z => ?_⟩, I.loc, I.cell, ?_, fun y c z => ?_, fun p q => ?_, fun b o z => ?_, I.len⟩
  · rw [upd_ne (fun y => by rw [y, new] at z; cases z)]
    exact I.base.free b o z n hx
  · obtain ⟨more, z2⟩ := I.base.tbls b ps z
    exact ⟨more, kp z2⟩
  · rw [upd_ne nL.symm]
    exact I.free
  · have nca : c ≠ a := fun y2 => by
      obtain ⟨v, oc, z3, z4⟩ := I.cell y c z
      rw [y2, ha] at z3
      obtain rfl := Option.some.inj z3
      first
        | exact nc _ z4
        | exact nc _ z4.2
        | exact nc _ z4.1
    rw [upd_ne nca]
    exact I.freeC y c z
  · obtain ⟨z1, z2, z3, z4, z5⟩ := I.pin p (by
      rcases List.mem_append.mp q with q | q
      · exact List.mem_append_left _ q
      · exact List.mem_append_right _ (List.mem_cons_of_mem _ q))
    exact ⟨z1, by rw [upd_ne (hp p q)]; exact z2, z3, z4, z5⟩
  · by_cases hb : b = a
    · subst hb
      rw [upd_same] at z
      obtain rfl := Option.some.inj z
      exact exk_ok ha hc hd hv
    · rw [upd_ne hb] at z
      exact (I.hok b o z).stay (fun _ _ _ y => y) (fun c y => kp y) fun c xs y => kp y
/-- what 'except x as n: suite' wishes of an exception of the body, the exception being kept: slot i is n's -/
def wKeep (K : PySem.W.Frag) (c : Value) (i : Nat) (ts : Addr → Value → Option Addr → TS) (Wout : WX) (D : Ends) : WX := fun cls d σ H =>
  ∃ b, PySem.W.exmOne K cls c = some b ∧ (b = true → ∀ a, H a = none → ts a cls d { nx := fun σ' H' => D.nx (σ'.set i none) (upd H' a (exk a cls d)), rt := fun _ _ => False } (σ.set i (some (.ref a))) H) ∧
    (b = false → Wout cls d σ H)
section
variable {X : Cx} {x n : Str} {c : Value} {i : Nat} {body suite : List Stmt} {b₀ : Stmt} {np pos pos' : Pos} {tb : WX → TS} {ts : Addr → Value → Option Addr → TS} {Wout : WX}
theorem ps_try_keep (stk : X.stack = X.env :: X.outer) (frm : X.env.frame = some X.env.locals) (hex : X.ex = []) (hN : X.N.Nodup) (hi : X.N[i]? = some n) (hln : X.env.kindOf n = some .local) (nm : Names X x c) (tk : Takes X Wout)
    (hb : ∀ (W : WX) (pn : List (Addr × Obj)) (xe : Value → Shared → Prop), Takes (X.tr pn xe) W → PassesOwn (model X.prog X.w) X.A X.env xe → PSs (X.tr pn xe) body (tb W))
    (hsu : ∀ (a : Addr) (oe : Obj) (cls : Value) (d : Option Addr) (pn : List (Addr × Obj)), Zc cls d oe → (∃ vs, oe.data = .fields vs) → PSs (X.suite a ((a, oe) :: pn)) (b₀ :: suite) (ts a cls d)) :
    PS X (.Try body [.ExceptHandler (some (.Name x np)) (some n) (b₀ :: suite) pos'] [] [] pos) (fun D σ H => tb (wKeep X.K c i ts Wout D) D σ H) := by
  refine ⟨fun pins s σ H D I wish => ?_⟩
  have okX := I.ok
  have frs1 : X.A.frames = some (X.env :: X.outer) := by rw [okX.frames, stk]
  refine wpAny_Try_except ?_
  refine wpAny_mono ((hb (wKeep X.K c i ts Wout D) (X.pn ++ pins) (fun z s₁ => wpAny (model X.prog X.w) X.A (noteFrame z X.env) (fun _ s₂ => wpAny (model X.prog X.w) X.A (setFlight z none) (fun _ s₃ =>
    wpAny (model X.prog X.w) X.A (handleBy z X.env [.ExceptHandler (some (.Name x np)) (some n) (b₀ :: suite) pos']) (SP X pins D) X.xe s₃) X.xe s₂) X.xe s₁) (fun u s' air => ?_) PassesOwn.looking).run [] s σ H D (I.toTry _) wish) (fun fl s1 got => ?_) (fun z s1 got => got)
  · obtain ⟨a, B, sI, pins', σ', H', cls, d, rfl, J', nb, up, sky, na, os, ag, b, hb1, hyes, hno⟩ := air
    have J : L2.Inv X pins σ' H' sI := J'.ofTry okX
    have sky1 : Sky B (X.env :: X.outer) a (Zc cls d) X.env.locals s'.heap := by rw [← stk]; exact sky
    show wpAny (model X.prog X.w) X.A (noteFrame (.ref a) X.env) _ _ _
    refine Sky.land Zc.steady frs1 frm sky1 fun h3 fl3 up3 => ?_
    have J3 : L2.Inv X pins σ' H' { s' with heap := h3 } := J.landed nb fl3.1 (up.trans up3) os ag
    obtain ⟨oe3, vs3, he3, hz3, hd3⟩ := fl3.there
    have nfr : a ∉ frs (X.env :: X.outer) := fun hm => by
      obtain ⟨_, o', e', hnf⟩ := fl3.2.2.1.mem hm
      rw [he3] at e'
      cases e'
      exact hnf _ hd3
    have nL : a ≠ X.env.locals := fun z => nfr (List.mem_filterMap.mpr ⟨X.env, List.mem_cons_self, by rw [frm, z]⟩)
    have nF : a ∉ X.fs := fun hm => by
      obtain ⟨en, hen, y⟩ := List.mem_filterMap.mp hm
      exact nfr (List.mem_filterMap.mpr ⟨en, List.mem_cons_of_mem _ hen, y⟩)
    have newI : ∀ o, sI.heap.get? a = some o → False := fun o y => by
      have y2 := nb a o y (by rw [stk]; exact nfr)
      rw [fl3.2.1] at y2
      cases y2
    have new0 : X.s_0.heap.get? a = none := by
      cases y : X.s_0.heap.get? a with
      | none => rfl
      | some o =>
        obtain ⟨o', y2⟩ := J.base.there a o y (by rw [hex]; exact List.not_mem_nil)
        exact (newI o' y2).elim
    have apart : ∀ p ∈ X.pn ++ pins, p.1 ≠ a := fun p hp y => newI p.2 (by rw [← y]; exact (J.pin p hp).1)
    have S3 := J3.suite he3 hd3 na nL nF
    refine wpAny_handleBy_cons (codeAny_handlers_test ?_) (by intro y; cases y)
    have LT : PySem.W.Looks (model X.prog X.w) h3 (typeOf (.ref a)) cls := fun A Q E s k y => wpAny_typeOf_ref (k _ _ he3) (by rw [hz3.1]; exact y)
    have LM := PySem.W.exm_one (M := model X.prog X.w) (J3.kIn) LT hb1
    have asked : ∀ {Q : Value → Shared → Prop} {E : Value → Shared → Prop}, Q c { s' with heap := h3 } → wpAny (model X.prog X.w) (X.A.mark (some (.ref a))) (eval (.Name x np) X.env) Q E { s' with heap := h3 } := fun {Q E} y => by
      obtain ⟨hg, hdbg, hm | ⟨hm, hv, hnn⟩⟩ := nm
      · exact ld_glob (X := X.suite a ((a, oe3) :: (X.pn ++ pins))) S3 hg hm y hdbg
      · exact ld_blt (X := X.suite a ((a, oe3) :: (X.pn ++ pins))) S3 hg hm hv y hnn hdbg
    refine asked (LM.here ?_)
    cases b with
    | true =>
      refine codeAny_handlers_suite_as ?_
      refine HandSPX.lands_againZ fl3 fun h4 fl4 up4 => ?_
      have J4 : L2.Inv X pins σ' H' { s' with heap := h4 } := J.landed nb fl4.1 ((up.trans up3).trans up4) os ag
      obtain ⟨oe4, vs4, he4, hz4, hd4⟩ := fl4.there
      have S4 := J4.suite he4 hd4 na nL nF
      refine store_ok (X := X.suite a ((a, oe4) :: (X.pn ++ pins))) (v := .ref a) S4 hN hi (.inl hln) rfl (fun s5 S5 => ?_) (.inr hln)
      refine wpAny_mono ((hsu a oe4 cls d (X.pn ++ pins) hz4 ⟨_, hd4⟩).run [] s5 _ H' _ S5 (hyes rfl a na)) (fun fl s6 got => ?_) (fun _ _ y => False.elim y)
      cases fl with
      | next =>
        obtain ⟨σ6, H6, S6, q6⟩ := got
        have P6 := S6.pin (a, oe4) (List.mem_append_left _ List.mem_cons_self)
        have J6 : L2.Inv X ((a, oe4) :: pins) σ6 H6 s6 := (S6.unsuite okX).pins_of fun p hp => by
          rcases List.mem_cons.mp hp with rfl | hp
          · exact P6
          · exact (S6.unsuite okX).pin p (List.mem_append_right _ hp)
        exact gone_ok J6 hN hi hln fun s7 J7 => ⟨_, _, Inv_track J7 hz4.1 hz4.2 hd4 new0 apart, q6⟩
      | brk =>
        obtain ⟨σ6, H6, S6, q6⟩ := got
        exact q6.elim
      | cont =>
        obtain ⟨σ6, H6, S6, q6⟩ := got
        exact q6.elim
      | ret u =>
        obtain ⟨v6, σ6, H6, S6, r6, q6⟩ := got
        exact q6.elim
    | false =>
      show wpAny _ X.A (handleBy (.ref a) X.env []) _ _ _
      refine wpAny_handleBy_nil ?_
      obtain ⟨k1, k2, k3, oe, vs, T, oT, ts', he, hz, hd, h1, hr⟩ := id fl3
      unfold PySem.passOn
      refine wpAny_bind (wpAny_field he hd h1 ?_)
      rw [if_neg (show ¬ ((Value.ref T == Value.none) = true) from by simp)]
      have fin : wpAny (model X.prog X.w) X.A (setFlight (.ref a) X.env.frame) (fun _ s4 => wpAny (model X.prog X.w) X.A (throw (.ref a) : Sem Flow) (SP X pins D) X.xe s4) X.xe { s' with heap := h3 } := by
        rw [frm]
        refine HandSPX.setFlight_upZ fl3 fun h4 hh4 up4 => wpAny_throw (tk _ _ ?_)
        exact ⟨a, B, sI, pins, σ', H', cls, d, rfl, J, nb, (up.trans up3).trans up4, .inr (.inr (by rw [stk]; exact hh4)), na, os, ag, hno rfl⟩
      first
        | exact wpAny_bind (wpAny_pure (wpAny_bind fin))
        | exact wpAny_bind fin
  · cases fl with
    | next =>
      obtain ⟨σ', H', J', q⟩ := got
      exact wpAny_execs_nil ⟨σ', H', J'.ofTry okX, q⟩
    | brk =>
      obtain ⟨σ', H', J', q⟩ := got
      exact ⟨σ', H', J'.ofTry okX, q⟩
    | cont =>
      obtain ⟨σ', H', J', q⟩ := got
      exact ⟨σ', H', J'.ofTry okX, q⟩
    | ret u =>
      obtain ⟨v, σ', H', J', r, q⟩ := got
      exact ⟨v, σ', H', J'.ofTry okX, r, q⟩
end
theorem takesF {X : Cx} : Takes X (fun _ _ _ _ => False) := fun _ _ x => by
  obtain ⟨_, _, _, _, _, _, _, _, _, _, _, _, _, _, _, _, z⟩ := x
  exact z.elim
theorem passF {X : Cx} : Passes (L2.CX X.prog X.w) X (fun _ _ _ => False) := fun _ _ _ _ _ _ _ x => by
  obtain ⟨_, _, _, _, _, _, _, _, _, _, _, _, z⟩ := x
  exact z.elim
/-! ### what is asked of an exception that was kept -/
section
open PySem.W PySem.Calls
variable {prog : Program} {w : World} {A : Around} {E : Value → Shared → Prop} {s : Shared} {K : PySem.W.Frag} {y D : Addr} {oy : Obj} {od : Option Obj}
theorem class_of_exc {Q : Option Value → Shared → Prop} (T : ExcC K D) (kin : K.In s.heap) (I : InstAt s.heap y oy D od) (hod : od.isSome = true) (h : Q (some (.ref D)) { s with toks := s.toks + 1 }) :
    wpAny (model prog w) A (getAttr? (.ref y) "__class__") Q E s := by
  obtain ⟨oo, rfl⟩ := Option.isSome_iff_exists.mp hod
  have ff : findObj K D (some oo) "__class__" = some (.bind (.builtin "getset_descriptor.__get__") (.builtin "object.__class__")) := findObj_data (by obtain ⟨cd, hc, _⟩ := any_some T.hd; rw [hc]; rfl) T.ha T.hn T.ht
  obtain ⟨hp, g, d, t, os⟩ := s
  have T0 := I.type (M := model prog w)
  have T1 := looks_findIn (M := model prog w) kin T.hg
  have T2 := looks_findIn (M := model prog w) kin T.hk
  have T3 := looks_find (M := model prog w) kin I ff
  have inB : Looks (model prog w) hp (isInstance (.ref y) (.type "BaseException")) true := T0.andThen (looks_subIn kin T.hs)
  have b0 : (false && onTheHeap (Value.builtin "BaseException.__getattribute__")) = false := rfl
  have b2 : (Value.builtin "BaseException.__getattribute__" == Value.builtin "object.__getattribute__") = false := by decide +kernel
  have b1 : (onTheHeap (Value.ref D) && Value.builtin "BaseException.__getattribute__" == Value.builtin "object.__getattribute__") = false := by rw [b2]; rfl
  unfold getAttr? getAttrBy? getAttrBy
  refine wpAny_bind (wpAny_mkText (wpAny_bind (wpAny_attempt (wpAny_holding (wpAny_bind (T0.at (wpAny_bind (T1.at ?_))))))))
  show wpAny _ _ (if (onTheHeap (Value.ref D) && Value.builtin "BaseException.__getattribute__" == Value.builtin "object.__getattribute__") = true then _ else _) _ _ ⟨hp, g, d, t + 1, os⟩
  rw [b1, if_neg Bool.false_ne_true]
  unfold getAttrByItsOwn hookBefore
  refine wpAny_bind ?_
  rw [if_pos (show onTheHeap (Value.ref D) = true from rfl)]
  refine T2.at ?_
  refine wpAny_bind (wpAny_attempt (wpAny_holding ?_))
  unfold callGetattribute
  rw [b0, if_neg Bool.false_ne_true]
  unfold boundAndCalled
  rw [PySem.F.excAttr_ValueError.ga.bind (.ref y)]
  refine wpAny_bind (wpAny_pure ?_)
  show wpAny _ _ (call (.builtin "BaseException.__getattribute__") [.ref y, .str "__class__" t]) _ _ _
  refine wpAny_call (codeAny_call_builtin PySem.F.excAttr_ValueError.ga.plain PySem.F.entry_bexc_ga ?_)
  refine @check_slot (model prog w) _ _ ⟨hp, g, d, t + 1, os⟩ "BaseException.__getattribute__" "BaseException" "__getattribute__" (.ref y) [.str "__class__" t] [] _ (by decide +kernel) (by decide +kernel) inB (PySem.F.args_bexc_ga (.ref y) (.str "__class__" t)) ?_
  unfold Builtin.«object.__getattribute__»
  refine wpAny_bind (wpAny_of_eq (a := ((Value.ref y : Value), [Value.str "__class__" t])) (by first | rfl | (simp only [slotArgs]; rfl)) ?_)
  refine wpAny_bind (wpAny_pure (wpAny_bind (T0.at (wpAny_bind (T3.at ?_)))))
  show wpAny _ _ (holding [Value.builtin "object.__class__"] (call (.builtin "getset_descriptor.__get__") [.builtin "object.__class__", .ref y, .ref D]) >>= ret) _ _ ⟨hp, g, d, t + 1, os⟩
  refine wpAny_bind (wpAny_holding (wpAny_call (class_get (s := ⟨hp, g, d, t + 1, os⟩) (ox := oy) (od := some oo) kin I T.hm ?_)))
  refine wpAny_pure ?_
  show wpAny _ _ (handedOut (.ref D)) _ _ ⟨hp, g, d, t + 1, os⟩
  rw [handedOut_of (v := .ref D) rfl]
  first
    | exact wpAny_pure (wpAny_pure h)
    | exact wpAny_pure h
    | exact wpAny_pure (wpAny_bind (wpAny_pure (wpAny_pure h)))
theorem kit_kept (T : ExcC K D) : KitX K (.ref y) (.ref D) (fun h => ∃ oy oo, InstAt h y oy D (some oo)) where
  ty := fun _ _ _ I => by
    obtain ⟨_, _, I⟩ := I
    exact I.type
  it := fun _ _ kin _ => by
    obtain ⟨cd, hc, _⟩ := any_some T.hd
    unfold clsIn at hc
    split at hc
    · rename_i c' d' cd' sl' ho
      intro A' Q' E' s' k q
      unfold isType loadHead
      exact wpAny_bind (wpAny_loadPart (k _ _ (kin _ _ ho)) (wpAny_pure q))
    · cases hc
  ne := fun h tp dd its n sl kin htp => by
    obtain ⟨cd, hc, _⟩ := any_some T.hd
    refine Bool.eq_false_iff.mpr fun q => ?_
    obtain rfl : D = tp := Value.ref.inj (beq_iff_eq.mp q)
    unfold clsIn at hc
    split at hc
    · rename_i c' d' cd' sl' ho
      have z := (kin _ _ ho).symm.trans htp
      cases z
    · cases hc
  ca := fun kin I k => by
    obtain ⟨_, _, I⟩ := I
    exact class_of_exc T kin I rfl k
end
section
variable {X : Cx} {pins : List (Addr × Obj)} {σ : L2.St} {H : Hp} {s : Shared}
theorem kept_inst {a D d : Addr} {fs : List (Str × V)} (I : L2.Inv X pins σ H s) (e : H a = some (exk a (.ref D) (some d))) (ed : H d = some (.xd fs)) : ∃ oy oo, PySem.W.InstAt s.heap a oy D (some oo) ∧ ∃ mA : Str → Option Value, (∀ f, RelO (fs.lookup f) (mA f)) ∧ ∀ n, PySem.W.lookIn n oo = some (mA n) := by
  obtain ⟨oe, vs, h1, h2, h3, h4⟩ := exk_at I.hok e
  obtain ⟨mA, hns, hr⟩ := (show ObjOk X.prog X.w H s.heap d (.xd fs) from I.hok d _ ed)
  obtain ⟨oo, ho, hl⟩ := lookIn_ns hns
  exact ⟨oe, oo, ⟨h1, h2, by unfold PySem.W.notCls; rw [h4] <;> rfl, by rw [h3]; exact ho⟩, mA, hr, hl⟩
end
/-- isinstance(x, c), x an exception that was kept -/
def rIsX (K : PySem.W.Frag) : List V → Hp → VK → Prop := fun xs H Q => ∃ (a D d : Addr) (fs : List (Str × V)) (c : V) (u : Value) (b : Bool), xs = [.ref a, c] ∧ H a = some (exk a (.ref D) (some d)) ∧ H d = some (.xd fs) ∧ ExcC K D ∧ ClsV c u ∧ PySem.W.kitOne K (.ref D) u = some b ∧ Q (.bl b) H
/-- isinstance(x, (c1, ..)) -/
def rIsXT (K : PySem.W.Frag) : List V → Hp → VK → Prop := fun xs H Q => ∃ (a D d : Addr) (fs : List (Str × V)) (tp : Addr) (cs : List V) (us : List Value) (b : Bool), xs = [.ref a, .ref tp] ∧ H a = some (exk a (.ref D) (some d)) ∧ H d = some (.xd fs) ∧ ExcC K D ∧ H tp = some (.tup cs) ∧ Paired ClsV cs us ∧ PySem.W.kitAny K (.ref D) us = some b ∧ Q (.bl b) H
section
variable {X : Cx}
theorem call_isX : CallR X (.builtin "isinstance") (rIsX X.K) := by
  intro pins s σ H xs us Q I r h
  obtain ⟨a, D, d, fs, c, u, b, rfl, ea, ed, T, k, e, q⟩ := h
  obtain ⟨u1, u2, rfl, r1, r2⟩ := vals2 r
  obtain rfl := k.eq r2
  obtain rfl : u1 = Value.ref a := r1
  obtain ⟨oy, oo, J, _⟩ := kept_inst I ea ed
  exact PySem.W.kia_one (kit_kept T) I.kIn ⟨_, _, J⟩ e (fun z => nomatch z) fun tk => ⟨.bl b, H, I.tok tk, rfl, q⟩
theorem call_isXT : CallR X (.builtin "isinstance") (rIsXT X.K) := by
  intro pins s σ H xs us Q I r h
  obtain ⟨a, D, d, fs, tp, cs, ws, b, rfl, ea, ed, T, hT, k, e, q⟩ := h
  obtain ⟨u1, u2, rfl, r1, r2⟩ := vals2 r
  obtain rfl : u1 = Value.ref a := r1
  obtain rfl : u2 = Value.ref tp := r2
  obtain ⟨oy, oo, J, _⟩ := kept_inst I ea ed
  obtain ⟨_, its, rv, o, h1, h2, n, h3⟩ := (show ObjOk X.prog X.w H s.heap tp (.tup cs) from I.hok tp _ hT)
  obtain rfl := ClsV.all k rv
  obtain ⟨oc, odd, dt, sl⟩ := o
  simp only at h2 h3
  subst h2 h3
  exact PySem.W.kia_tup (kit_kept T) I.kIn ⟨_, _, J⟩ h1 e (fun z => nomatch z) fun tk => ⟨.bl b, H, I.tok tk, rfl, q⟩
/-- e.f, e an exception that was kept -/
def tFldX (K : PySem.W.Frag) (f : Str) (te : TE) : TE := fun σ H Q => te σ H fun x H1 => ∃ (a D d : Addr) (fs : List (Str × V)) (v : V), x = .ref a ∧ H1 a = some (exk a (.ref D) (some d)) ∧ H1 d = some (.xd fs) ∧ XfC K D ∧ PySem.W.findIn K (.ref D) f = some none ∧ fs.lookup f = some v ∧ Q v H1
theorem pe_fldX {e : Expr} {te : TE} {pos : Pos} {f : Str} (he : PE X e te) (hb : attributeBase e f X.env (eval e X.env) = eval e X.env := by rfl) : PE X (.Attribute e f pos) (tFldX X.K f te) := by
  refine ⟨fun pins s σ H Q I h => ?_⟩
  refine attr_of hb (thn (he.run pins s σ H _ I h) fun u s1 got => ?_)
  obtain ⟨x, H1, I1, rx, a, D, d, fs, v, rfl, ea, ed, T, hno, l, q⟩ := got
  obtain rfl : u = Value.ref a := rx
  obtain ⟨oy, oo, J, mA, hr, hl⟩ := kept_inst I1 ea ed
  obtain ⟨u, hu, ru⟩ := RelO.some_of (v := v) (o := mA f) (by rw [← l]; exact hr f)
  exact HandSPX.exc_get I1.kIn J T.ga T.gg T.exC (PySem.W.findObj_own T.hdC hno rfl (by rw [hl, hu])) (handed_of ru) ⟨v, H1, I1.tok _, ru, q⟩
end
/-! ### what the written part says of the program's error classes -/
structure BaseT (K : PySem.W.Frag) (B : Addr) : Prop where
  sp : PySem.W.specialIn K (.ref B) "__getattribute__" = some (some (.builtin "type.__getattribute__"))
  ty : PySem.W.typeIn K (.ref B) = some (.type "type")
  rd : PySem.W.readsIn K B (.type "type") = true
  fc : PySem.W.findCls K (.ref B) (.type "type") "__init__" = some (.val (.builtin "ValueError.__init__"))
structure ErrT (K : PySem.W.Frag) (C fI : Addr) (f : Str) (B : Addr) : Prop where
  ox : OexC K C
  xf : XfC K C
  ec : ExcC K C
  no : PySem.W.findIn K (.ref C) f = some none
  iC : PySem.W.findIn K (.ref C) "__init__" = some (some (.ref fI))
  tI : PySem.W.typeIn K (.ref fI) = some (.type "function")
  ex : PySem.W.exmOne K (.ref C) (.ref B) = some true
/-- an error's __init__: the base's, then the field -/
def spErr (K : PySem.W.Frag) (C : Addr) (f : Str) : Sp := fun vs H Q _ => ∃ (a : Addr) (v : V), vs = [.ref a, v] ∧ H a = some (exo a C none) ∧ ∀ dx, H dx = none → dx ≠ a → Q .non (upd (upd H dx (exd dx [(f, v)])) a (exo a C (some dx)))
/-- behind the raise: the error's dict, all else as it was -/
theorem err_end {H : Hp} {a C dx : Addr} {f : Str} {v : V} (na : H a = none) (nd : (upd H a (exo a C none)) dx = none) (ne : dx ≠ a) :
    let H2 := upd (upd (upd H a (exo a C none)) dx (exd dx [(f, v)])) a (exo a C (some dx))
    H2 a = some (exo a C (some dx)) ∧ H2 dx = some (exd dx [(f, v)]) ∧ H dx = none ∧ Same H (upd (del H2 a) dx (.xd [(f, v)])) ∧ (upd (del H2 a) dx (.xd [(f, v)])) dx = some (.xd [(f, v)]) := by
  have hd : H dx = none := by
    rw [upd_ne ne] at nd
    exact nd
  refine ⟨upd_same, by rw [upd_ne ne, upd_same], hd, fun b o z => ?_, upd_same⟩
  have n1 : b ≠ a := ne_of_none z na
  have n2 : b ≠ dx := ne_of_none z hd
  rw [upd_ne n2, del_ne n1, upd_ne n1, upd_ne n2, upd_ne n1]
  exact z
end Ef
set_option maxHeartbeats 4000000
namespace Ef
open PySem PySem.Spec PyProof.Rows L2
/-! ### a list comprehension whose element may raise -/
/-- what is wished at the end of a comprehension's block, its frame told -/
def compPostF (M : Model) (A : Around) (E : Value → Shared → Prop) (Q : Value → Shared → Prop) (acc : Value) (C : Addr) (fr : Option Addr) : Result → Shared → Prop
  | .ok _, s' => ∃ m, s'.heap.Ns C m ∧ ∀ h', Heap.SameBut C s'.heap h' → Q acc { s' with heap := h' }
  | .error x, s' => ∃ m, s'.heap.Ns C m ∧ ∀ h', Heap.SameBut C s'.heap h' → ∀ cenv : Env, cenv.frame = fr → wpAny M A (PySem.passOn "comprehension.variables-let-go" x cenv : Sem Value) (fun _ _ => False) E { s' with heap := h' }
section
variable {M : Model} {A : Around} {E : Value → Shared → Prop} {s : Shared} {env : Env}
theorem comprehension_freeF {e : Expr} {scope : Scope} {pos : Pos} {newAcc first : Sem Value} {g : Comprehension} {gs : List Comprehension} {cl : List (Str × Addr)} {Q : Value → Shared → Prop}
    (hcl : clausesOf e = g :: gs) (hs : ∀ x, foldedSetIterable g.iter env x = pure x) (hclos : closureFor scope env = pure cl)
    (hkind : scope.kind = .function) (hnames : ∀ x ∈ scope.names, x.2 = .local → scope.names.lookup x.1 = some .local)
    (h : wpAny M A first (fun x s₁ => wpAny M A (pyIter x) (fun it s₂ => wpAny M A newAcc (fun acc s₃ =>
      wpAny M A (newFunctionEnv scope env.globals cl [] env.qual none .none (some env)) (fun cenv s₄ =>
        codeAny M A (.compStart e 0 it acc { cenv with scope := relabel scope env }) (compPostF M A E Q acc cenv.locals cenv.frame) s₄) E s₃) E s₂) E s₁) E s) :
    wpAny M A (comprehension e scope env pos newAcc false first none) Q E s := by
  unfold comprehension
  rw [hclos, hcl]
  refine wpAny_bind (wpAny_mono h (fun x s₁ h₁ => wpAny_bind (wpAny_standAt (wpAny_bind (wpAny_of_eq (hs x) (wpAny_bind (wpAny_holding (wpAny_mono h₁ (fun it s₂ h₂ =>
    wpAny_standIf (wpAny_bind (wpAny_mono h₂ (fun acc s₃ h₃ => wpAny_bind (wpAny_pure (wpAny_bind (wpAny_mono h₃ (fun cenv s₄ h₄ => ?_) fun _ _ h' => h')))) fun _ _ h' => h')))
      fun _ _ h' => h'))))))) fun _ _ h' => h')
  dsimp only
  have hv : ∀ x ∈ (scope.names.filter fun x => (x.2 == .local || x.2 == .cell) && x.1 != (".0" : Str)).reverse, x.2 = .local →
      Env.kindOf { cenv with scope := relabel scope env } x.1 = some .local := fun x hx hl => lookup_relabel_local (hnames x (List.mem_filter.mp (List.mem_reverse.mp hx)).1 hl)
  refine wpAny_holding (wpAny_bind (wpAny_attempt (wpAny_holding (wpAny_run (codeAny_mono h₄ fun r s' hr => ?_)))))
  cases r with
  | ok f =>
    obtain ⟨m, hn, hr⟩ := hr
    exact wpAny_bind (wpAny_holding (wpAny_comp_letGo (cenv := { cenv with scope := relabel scope env }) hkind _ s' m hv hn fun h' m' _ hs' => wpAny_pure (hr h' hs')))
  | error x =>
    obtain ⟨m, hn, hr⟩ := hr
    exact wpAny_bind (wpAny_holding (wpAny_comp_letGo (cenv := { cenv with scope := relabel scope env }) hkind _ s' m hv hn fun h' m' _ hs' => wpAny_mono (hr h' hs' _ rfl) (fun _ _ f => f.elim) fun _ _ y => y))
end
theorem note_frame {e : Value} {env env' : Env} (h : env.frame = env'.frame) : noteFrame e env = noteFrame e env' := by
  unfold noteFrame PySem.frameOf
  rw [h]
theorem frames_but {h h' base base' : Heap} {C : Addr} (k : ∀ b, b ≠ C → h'.get? b = h.get? b) (kb : ∀ b, base.get? b = none → base'.get? b = none) : ∀ {l : List Env}, (∀ b ∈ frs l, b ≠ C) → h.FunFrames base l → h'.FunFrames base' l
  | [], _, _ => trivial
  | env :: rest, hl, ⟨h1, ⟨L, o, h2, h3, h4, h5⟩, h6⟩ => by
    have hm : L ∈ frs (env :: rest) := List.mem_filterMap.mpr ⟨env, List.mem_cons_self, h2⟩
    refine ⟨h1, ⟨L, o, h2, kb _ h3, (k L (hl L hm)).trans h4, h5⟩, frames_but k kb (fun b hb => hl b ?_) h6⟩
    obtain ⟨en, hen, y⟩ := List.mem_filterMap.mp hb
    exact List.mem_filterMap.mpr ⟨en, List.mem_cons_of_mem _ hen, y⟩
section
variable {X : Cx} {pins : List (Addr × Obj)} {σ : L2.St} {H : Hp} {s : Shared}
theorem Inv_unTr {xe : Value → Shared → Prop} (hp : X.pn = []) (I : L2.Inv (X.tr [] xe) pins σ H s) : L2.Inv X pins σ H s :=
  ⟨I.ok.ofTry, I.os, I.bare, I.base, I.loc, I.cell, I.free, I.freeC, fun p h => I.pin p (by rw [hp] at h; exact h), I.hok, I.len⟩
theorem Inv_inTr {xe : Value → Shared → Prop} (hp : X.pn = []) (I : L2.Inv X pins σ H s) : L2.Inv (X.tr [] xe) pins σ H s :=
  ⟨I.ok.toTry _ _, I.os, I.bare, I.base, I.loc, I.cell, I.free, I.freeC, fun p h => I.pin p (by rw [hp]; exact h), I.hok, I.len⟩
/-- an exception in a block: noted, the block's names let go, passed on -/
theorem block_err {W : WX} {EE : XK} {s3 : Shared} {H3 : Hp} {scope : Scope} {ce : Env} {fp : List Addr} {acc : Value} {Qf : Value → Shared → Prop} {e : Value} {s' : Shared}
    (hst : X.stack = X.env :: X.outer) (hfr : X.env.frame = some X.env.locals) (tk : Takes X W) (hW : ∀ cls d σ H, EE cls d H → W cls d σ H) (I3 : L2.Inv X pins σ H3 s3) (cL : ce.locals = s3.heap.objs.size) (cF : ce.frame = X.env.frame)
    (f3 : ∀ b ∈ fp, FpOk X pins H3 b ∧ b < s3.heap.objs.size)
    (hx : ∃ pins' σ' H' sI, L2.Inv (X.blk s3 H3 scope ce fp) pins' σ' H' sI ∧ CX X.prog X.w X.stack H' sI EE e s') :
    notedBy (model X.prog X.w) X.A ce (fun e s' => compPostF (model X.prog X.w) X.A X.xe Qf acc s3.heap.objs.size X.env.frame (.error e) s') e s' := by
  obtain ⟨pins', σ', H', sI, Ib, c⟩ := hx
  obtain ⟨a, B, sJ, pinsJ, σJ, HJ, cls, d, ea, J, nb, up, sky, na, os, ag, hw⟩ := XE.of_call (W := fun cls d _ H => EE cls d H) Ib (fun _ _ _ h => h) c
  obtain ⟨a0, B0, H0', cls0, d0, rfl, fl0, _⟩ := c
  obtain rfl : a0 = a := by injection ea
  have fl : HandSPX.FlyingZ B X.stack a0 (Zc cls d) s'.heap := by
    obtain ⟨_, _, _, oe0, vs0, T0, oT0, ts0, he0, _, hd0, h10, _, _, hT0, hdT0, h30⟩ := fl0
    rcases sky with ⟨_, _, _, oe, vs, he, _, hd, h1⟩ | fl | ⟨_, _, _, oe, vs, T, oT, ts, he, _, hd, h1, _, _, hT, hdT, h3⟩
    · rw [he0] at he
      cases he
      rw [hd0] at hd
      cases hd
      rw [h10] at h1
      cases h1
    · exact fl
    · rw [he0] at he
      cases he
      rw [hd0] at hd
      cases hd
      rw [h10] at h1
      cases h1
      rw [hT0] at hT
      cases hT
      rw [hdT0] at hdT
      cases hdT
      rw [h30] at h3
      cases h3
  have hfrA : X.A.frames = some (X.env :: X.outer) := by rw [I3.ok.frames, hst]
  show wpAny _ X.A (noteFrame (.ref a0) ce) _ _ s'
  rw [note_frame cF]
  rw [hst] at fl
  refine HandSPX.looks_onZ Zc.steady hfrA hfr fl fun h1 held up1 => ?_
  have J1 : L2.Inv (X.blk s3 H3 scope ce fp) pinsJ σJ HJ { s' with heap := h1 } := J.landed nb held.1 (up.trans up1) os ag
  obtain ⟨m, hn, _⟩ := J1.loc
  have hn : h1.Ns ce.locals m := hn
  rw [cL] at hn
  have nCJ : HJ s3.heap.objs.size = none := by
    have z : HJ ce.locals = none := J1.free
    rw [cL] at z
    exact z
  have fC := I3.fpOk (Nat.le_refl _) nCJ
  -- back in the def's context
  have IJ : L2.Inv X pins σ HJ sJ := I3.call' (ch := fp) J.os J.base J.hok J.bare fun b hb => ⟨(f3 b hb).1.2.2.2.1, (f3 b hb).1.2.1, (f3 b hb).1.2.2.2.2.1, (f3 b hb).1.2.2.2.2.2⟩
  refine ⟨m, hn, fun h2 sb cenv ef => ?_⟩
  generalize s3.heap.objs.size = C at fC hn sb nCJ
  have frC : ∀ b ∈ frs X.stack, b ≠ C := fun b hb z => by
    rcases List.mem_cons.mp (I3.stkSub b hb) with y | y
    · exact fC.2.1 (by rw [← z, y])
    · exact fC.2.2.1 (by rw [← z]; exact y)
  obtain ⟨hI, g1, g2⟩ := restrict sJ.heap fun b => decide (b ≠ C)
  obtain ⟨B2, b1, b2⟩ := restrict B fun b => decide (b ≠ C)
  have g1' : ∀ b, b ≠ C → hI.get? b = sJ.heap.get? b := fun b n => g1 b (decide_eq_true n)
  have b1' : ∀ b, b ≠ C → B2.get? b = B.get? b := fun b n => b1 b (decide_eq_true n)
  have gC : hI.get? C = none := g2 C (decide_eq_false fun z => z rfl)
  have bC : B2.get? C = none := b2 C (decide_eq_false fun z => z rfl)
  have bn : ∀ b, B.get? b = none → B2.get? b = none := fun b h => by
    by_cases y : b = C
    · rw [y]
      exact bC
    · rw [b1' b y]
      exact h
  have ne2 : ∀ {b o}, B2.get? b = some o → b ≠ C := fun {b o} h y => by
    rw [y, bC] at h
    cases h
  have neI : ∀ {b o}, hI.get? b = some o → b ≠ C := fun {b o} h y => by
    rw [y, gC] at h
    cases h
  obtain ⟨f0, f1, f2, f3', f4, f5⟩ := fC
  have II : L2.Inv X pins σ HJ { sJ with heap := hI } := IJ.turned (t' := sJ.toks) (fun b o hb y => (g1' b hb).trans y) f0 f1 f3' f4 f5
  obtain ⟨hB, hna, hF, oe, vs, Tt, oT, ts, he, hz, hd, h1', hnT, hTe, hT, hdT, h3⟩ := held
  have nF : ∀ b o vs, h1.get? b = some o → o.data = .fields vs → b ≠ C := fun b o vs y1 y2 y3 => by
    obtain ⟨oC, es, ep, hoC, hdC, _⟩ := hn
    rw [y3, hoC] at y1
    cases y1
    rw [hdC] at y2
    cases y2
  have he2 : h2.get? a0 = some oe := (sb.2 _ (nF _ _ _ he hd)).trans he
  have hT2 : h2.get? Tt = some oT := (sb.2 _ (nF _ _ _ hT hdT)).trans hT
  unfold PySem.passOn
  refine wpAny_bind (wpAny_field he2 hd h1' ?_)
  rw [if_neg (show ¬ ((Value.ref Tt == Value.none) = true) from by simp)]
  have fin : wpAny (model X.prog X.w) X.A (setFlight (.ref a0) cenv.frame) (fun _ s4 => wpAny (model X.prog X.w) X.A (throw (.ref a0) : Sem Value) (fun _ _ => False) X.xe s4) X.xe { s' with heap := h2 } := by
    rw [ef, hfr]
    refine HandSPX.setFlight_anyZ (base := B2) (l := X.env :: X.outer) (Z := Zc cls d) (fl := rawInt X.env.locals) (fr := some X.env.locals) (fun b o y => (sb.2 b (ne2 y)).trans (hB b o ((b1' b (ne2 y)).symm.trans y))) (frames_but sb.2 bn (by rw [← hst]; exact frC) hF)
      ⟨oe, vs, Tt, oT, ts, he2, hz, hd, h1', bn _ hnT, hTe, hT2, hdT, h3⟩ fun h4 k1 k2 k3 k4 => wpAny_throw (tk _ _ ?_)
    refine ⟨a0, B2, { sJ with heap := hI }, pins, σ, HJ, cls, d, rfl, II, fun b o y hb => ?_, fun b o y yn => ?_, .inr (.inr ?_), na, os, ag, hW _ _ _ _ hw⟩
    · rw [b1' b (neI y)]
      exact nb b o ((g1' b (neI y)).symm.trans y) hb
    · obtain ⟨sl, y1⟩ := (up.trans up1) b o ((g1' b (neI y)).symm.trans y) yn
      exact k4 b { o with slots := sl } ((sb.2 b (neI y)).trans y1) yn
    · rw [hst]
      exact ⟨k1, bn _ hna, k2, k3⟩
  first
    | exact wpAny_bind (wpAny_pure (wpAny_bind fin))
    | exact wpAny_bind fin
/-- [elt for target in iter if ..], the element may raise what EE takes -/
theorem lc_coreX {W : WX} {EE : XK} {Q : VK} {elt tg iter : Expr} {ifs : List Expr} {scope : Scope} {own : List (Str × Nat)} {pos pos' : Pos} {wi : TI} {g : TG} {tt : TT} {te : TE} {Qf : Value → Shared → Prop}
    (hst : X.stack = X.env :: X.outer) (hfr : X.env.frame = some X.env.locals) (tk : Takes X W) (hW : ∀ cls d σ H, EE cls d H → W cls d σ H)
    (hc : X.calm = true) (hN : X.N.Nodup) (I : L2.Inv X pins σ H s) (hi : PI X tg iter wi) (ok : BlkOk X.N X.env.scope scope own)
    (hg : ∀ (s : Shared) (H : Hp) (C : Addr) (cl : List (Str × Addr)) (fp : List Addr), PG (X.blk s H scope (compEnvC scope cl C X.env) fp) tg g) (ht : ∀ (s : Shared) (H : Hp) (C : Addr) (cl : List (Str × Addr)) (fp : List Addr), PTs (X.blk s H scope (compEnvC scope cl C X.env) fp) ifs tt)
    (he : ∀ (s : Shared) (H : Hp) (C : Addr) (cl : List (Str × Addr)) (fp : List Addr) (xe : Value → Shared → Prop), (∀ (pins : List (Addr × Obj)) (σ : L2.St) (H' : Hp) (s1 : Shared) (e : Value) (s' : Shared), L2.Inv ((X.blk s H scope (compEnvC scope cl C X.env) fp).tr [] xe) pins σ H' s1 → CX X.prog X.w X.stack H' s1 EE e s' → xe e s') → PE ((X.blk s H scope (compEnvC scope cl C X.env) fp).tr [] xe) elt te) (hs : ∀ x, foldedSetIterable iter X.env x = pure x)
    (h : tLc wi g tt te (own.map (·.2)) σ H Q)
    (hRR : ∀ D C s' m H', L2.Inv X pins σ H' s' → Q (.ref D) H' → s'.heap.Ns C m → FpOk X pins H' C → compPostF (model X.prog X.w) X.A X.xe Qf (.ref D) C X.env.frame (.ok .next) s') :
    wpAny (model X.prog X.w) X.A (comprehension (.ListComp elt [⟨tg, iter, ifs, 0⟩] scope pos) scope X.env pos' (newList []) false (eval iter X.env) none) Qf X.xe s := by
  have hfree : ∀ y ∈ scope.names, y.2 = .free → ∃ c, X.env.cells.lookup y.1 = some c := fun y hy e => by
    rcases ok.free y hy e with k | k
    · exact I.ok.has _ (.inl k)
    · exact I.ok.has _ (.inr k)
  refine comprehension_freeF rfl hs (closure_ok hfree) ok.kind (fun y hy e => by rw [ok.uniq y hy, e])
    (thn (hi.run pins s σ H _ I h) fun xv s1 hx => thn hx fun itv s2 h2 => ?_)
  obtain ⟨it, fp, tn, J, H2, e, I2, T, st2, f2, q⟩ := h2
  subst e
  refine wpAny_newObj_type (newEnv_comp ?_) (by show 0 ≤ sizeLine; decide)
  generalize hD : s2.heap.objs.size = D
  have hDn : H2 D = none := I2.hok.fresh (Nat.le_of_eq hD)
  obtain ⟨Wt, ⟨m0, w0⟩, turn⟩ := q D hDn
  generalize hs3 : ({ s2 with heap := s2.heap.push { cls := .type "list", data := .seq ([] : List Value).toArray } } : Shared) = s3
  have I3 : L2.Inv X pins σ (upd H2 D (.lst [])) s3 := by
    rw [← hs3]
    refine I2.laid (t' := s2.toks) (fun b o e => Heap.get?_push_of_some _ e) (Nat.le_of_eq hD) ⟨Nat.zero_le _, [], 0, .nil, ?_⟩
    rw [← hD]
    exact Heap.get?_push_size _ rfl
  have h3 : s3.heap = s2.heap.push { cls := .type "list", data := .seq ([] : List Value).toArray } := by rw [← hs3]
  have sz : ∀ b ∈ fp, b < s2.heap.objs.size := fun b hb => by
    obtain ⟨o, e, _⟩ := T.obj _ _ st2 b hb
    exact Heap.lt_size e
  have f3 : ∀ b ∈ fp, FpOk X pins (upd H2 D (.lst [])) b ∧ b < s3.heap.objs.size := fun b hb => by
    have hlt := sz b hb
    refine ⟨⟨?_, (f2 b hb).2⟩, by rw [h3, Heap.size_push]; exact Nat.lt_succ_of_lt hlt⟩
    rw [upd_ne (by rw [← hD]; exact Nat.ne_of_lt hlt)]
    exact (f2 b hb).1
  have st3 : tn 0 s3.heap := T.keep _ _ _ st2 fun b _ o e => by rw [h3]; exact Heap.get?_push_of_some _ e
  have I4 := block_start I3 ok hN f3
  have pg := hg s3 (upd H2 D (.lst [])) s3.heap.objs.size (cellsFrom (s3.heap.objs.size + 1) scope.names (cloFrom X.env.cells scope.names [])) fp
  have pt := ht s3 (upd H2 D (.lst [])) s3.heap.objs.size (cellsFrom (s3.heap.objs.size + 1) scope.names (cloFrom X.env.cells scope.names [])) fp
  have pe := he s3 (upd H2 D (.lst [])) s3.heap.objs.size (cellsFrom (s3.heap.objs.size + 1) scope.names (cloFrom X.env.cells scope.names [])) fp
  show codeAny _ _ (.compStart (.ListComp elt [⟨tg, iter, ifs, 0⟩] scope pos) 0 (.ref it) (.ref D) (compEnvC scope (cellsFrom (s3.heap.objs.size + 1) scope.names (cloFrom X.env.cells scope.names [])) s3.heap.objs.size X.env)) (compPostF (model X.prog X.w) X.A X.xe Qf (.ref D) s3.heap.objs.size X.env.frame) { s3 with heap := pushCells (s3.heap.push { cls := .type "dict", data := .dict #[] }) scope.names }
  have nfp : ∀ b ∈ fp, (upd H2 D (.lst [])) b = none := fun b hb => (f3 b hb).1.1
  generalize hce : compEnvC scope (cellsFrom (s3.heap.objs.size + 1) scope.names (cloFrom X.env.cells scope.names [])) s3.heap.objs.size X.env = ce at I4 pg pt pe ⊢
  have cL : ce.locals = s3.heap.objs.size := by subst hce; rfl
  have cF : ce.frame = X.env.frame := by subst hce; rfl
  generalize hH3 : upd H2 D (.lst []) = H3 at I3 I4 pg pt pe w0 nfp f3
  generalize hs4 : ({ s3 with heap := pushCells (s3.heap.push { cls := .type "dict", data := .dict #[] }) scope.names } : Shared) = s4 at I4 ⊢
  have st4 : tn 0 s4.heap := T.keep _ _ _ st3 fun b _ o e => by rw [← hs4]; exact pushCells_keeps _ _ _ _ (Heap.get?_push_of_some _ e)
  have stat : ∀ {σ' : L2.St} {H' : Hp} {s' : Shared}, L2.Inv (X.blk s3 H3 scope ce fp) [] σ' H' s' → (∀ b ∈ fp, H' b = none) → ∀ b ∈ fp, FpOk (X.blk s3 H3 scope ce fp) [] H' b := fun {σ' H' s'} I' hn b hb =>
    ⟨hn b hb, (I'.ok.exf b hb).1, I'.ok.exfs b hb, .inl hb, fun x c e => (I'.ok.exf b hb).2 x c e, fun p hp => absurd (show p ∈ ([] : List (Addr × Obj)) ++ [] from hp) (by simp)⟩
  have px := pe (fun e s' => ∃ pins' σ' H' sI, L2.Inv (X.blk s3 H3 scope ce fp) pins' σ' H' sI ∧ CX X.prog X.w X.stack H' sI EE e s') fun pins σ H' s1 e s' I' c => ⟨pins, σ, H', s1, Inv_unTr rfl I', c⟩
  have loop : codeAny (model X.prog X.w) X.A (.compLoop (.ListComp elt [⟨tg, iter, ifs, 0⟩] scope pos) 0 (.ref it) (.ref D) ce) (compPostF (model X.prog X.w) X.A X.xe Qf (.ref D) s3.heap.objs.size X.env.frame) s4 := by
    refine compLoop_any (fun n s' => ∃ i H', L2.Inv (X.blk s3 H3 scope ce fp) [] (wipe σ (own.map (·.2))) H' s' ∧ tn i s'.heap ∧ (∀ b ∈ fp, H' b = none) ∧ Wt i n H') ?_ m0 ⟨0, H3, I4, st4, nfp, w0⟩
    rintro n s5 ⟨i, H5, I5, st5, n5, w5⟩
    rcases turn i n H5 w5 with ⟨stop, qq⟩ | ⟨go, Nx, hNx, step⟩
    · have td := T.done (X.blk s3 H3 scope ce fp) rfl rfl rfl hc i [] s5 _ H5 (fun _ _ => False) I5 (stat I5 n5) st5 stop
      refine thnF td fun r s6 ⟨hr, I6⟩ => ?_
      subst hr
      have I7 : L2.Inv X pins σ H5 s6 := I3.call' (ch := fp) I6.os I6.base I6.hok I6.bare fun b hb => ⟨(f3 b hb).1.2.2.2.1, (f3 b hb).1.2.1, (f3 b hb).1.2.2.2.2.1, (f3 b hb).1.2.2.2.2.2⟩
      have nC : H5 s3.heap.objs.size = none := by
        have z : H5 ce.locals = none := I6.free
        rw [cL] at z
        exact z
      obtain ⟨m, hn, _⟩ := I6.loc
      have hn : s6.heap.Ns ce.locals m := hn
      rw [cL] at hn
      exact hRR D s3.heap.objs.size s6 m H5 I7 qq hn (I3.fpOk (Nat.le_refl _) nC)
    · have ti := T.item (X.blk s3 H3 scope ce fp) rfl rfl rfl hc i [] s5 _ H5 (fun _ _ => False) I5 (stat I5 n5) st5 go
      refine thnF ti fun r s6 ⟨u, hr, h6⟩ => ?_
      subst hr
      refine thnF h6 fun _ s7 ⟨x, H7, I7, r7, y7, st7, n7⟩ => ?_
      have I7' := I7.pinned (stat I7 n7) (T.obj _ _ st7)
      refine thnF (pg.run _ s7 _ H7 x u _ I7' r7 (step x H7 y7)) fun _ s8 ⟨σ8, H8, I8, hw8, q8⟩ => ?_
      refine thnF (pt.run _ s8 σ8 H8 _ I8 q8) fun b s9 ⟨H9, I9, q9⟩ => ?_
      have fin : ∀ {s' : Shared} {H' : Hp}, L2.Inv (X.blk s3 H3 scope ce fp) ([] ++ pinsAt fp s7.heap) σ8 H' s' → Nx H' → ∃ m, m < n ∧ ∃ i H', L2.Inv (X.blk s3 H3 scope ce fp) [] (wipe σ (own.map (·.2))) H' s' ∧ tn i s'.heap ∧ (∀ b ∈ fp, H' b = none) ∧ Wt i m H' := fun {s' H'} I' nx => by
        obtain ⟨m', hm, w'⟩ := hNx H' nx
        have pin' : ∀ b ∈ fp, ∀ o, s7.heap.get? b = some o → s'.heap.get? b = some o ∧ H' b = none := fun b hb o e =>
          let z := I'.pin (b, o) (List.mem_append_right _ (List.mem_append_right _ (mem_pinsAt hb e)))
          ⟨z.1, z.2.1⟩
        have hl : (wipe σ (own.map (·.2))).length = σ8.length := by rw [← hw8, wipe_length]
        refine ⟨m', hm, i + 1, H', (I'.unpinned (pins := [])).weak hl (fun j v e => ?_), T.keep _ _ _ st7 fun b hb o e => (pin' b hb o e).1, fun b hb => ?_, w'⟩
        · rw [← hw8] at e
          exact (wipe_some e).1
        · obtain ⟨o, e, _⟩ := T.obj _ _ st7 b hb
          exact (pin' b hb o e).2
      cases b with
      | false =>
        simp only [Bool.false_eq_true, if_false] at q9 ⊢
        exact fin I9 q9
      | true =>
        simp only [if_true] at q9 ⊢
        refine wpAny_mono (px.run _ s9 σ8 H9 _ (Inv_inTr rfl I9) q9) (fun z s10 ⟨yv, H10, I10, r10, acc, hD10, hz10, nx⟩ => ?_) fun e s10 hx => ?_
        · exact app_ok (X := X.blk s3 H3 scope ce fp) (Inv_unTr rfl I10) hD10 hz10 r10 fun s11 I11 => fin I11 nx
        · exact block_err hst hfr tk hW I3 cL cF f3 hx
  exact codeAny_compStart_list loop (T.self X.A 0 _ _ _ st4 loop)
end
section
variable {X : Cx}
/-- a list comprehension as a value, its element may raise -/
theorem pe_lcX {W : WX} {EE : XK} {elt tg iter : Expr} {ifs : List Expr} {scope : Scope} {own : List (Str × Nat)} {pos : Pos} {wi : TI} {g : TG} {tt : TT} {te : TE} (hst : X.stack = X.env :: X.outer) (hfr : X.env.frame = some X.env.locals) (tk : Takes X W) (hW : ∀ cls d σ H, EE cls d H → W cls d σ H)
    (hc : X.calm = true) (hN : X.N.Nodup) (hi : PI X tg iter wi) (ok : BlkOk X.N X.env.scope scope own)
    (hg : ∀ (s : Shared) (H : Hp) (C : Addr) (cl : List (Str × Addr)) (fp : List Addr), PG (X.blk s H scope (compEnvC scope cl C X.env) fp) tg g) (ht : ∀ (s : Shared) (H : Hp) (C : Addr) (cl : List (Str × Addr)) (fp : List Addr), PTs (X.blk s H scope (compEnvC scope cl C X.env) fp) ifs tt)
    (he : ∀ (s : Shared) (H : Hp) (C : Addr) (cl : List (Str × Addr)) (fp : List Addr) (xe : Value → Shared → Prop), (∀ (pins : List (Addr × Obj)) (σ : L2.St) (H' : Hp) (s1 : Shared) (e : Value) (s' : Shared), L2.Inv ((X.blk s H scope (compEnvC scope cl C X.env) fp).tr [] xe) pins σ H' s1 → CX X.prog X.w X.stack H' s1 EE e s' → xe e s') → PE ((X.blk s H scope (compEnvC scope cl C X.env) fp).tr [] xe) elt te) (hs : ∀ x, foldedSetIterable iter X.env x = pure x := by intro _; rfl) :
    PE X (.ListComp elt [⟨tg, iter, ifs, 0⟩] scope pos) (tLc wi g tt te (own.map (·.2))) := by
  refine ⟨fun pins s σ H Q I h => ?_⟩
  rw [eval_ListComp]
  refine lc_coreX hst hfr tk hW hc hN I hi ok hg ht he hs h fun D C s' m H' I' q hn f => ⟨m, hn, fun h'' sb => ?_⟩
  obtain ⟨f0, f1, f2, f3, f4, f5⟩ := f
  exact ⟨.ref D, H', I'.turned (t' := s'.toks) (fun b o hb e => (sb.2 b hb).trans e) f0 f1 f3 f4 f5, rfl, q⟩
end
end Ef
set_option maxHeartbeats 4000000
namespace Ef
open PySem PySem.Spec PyProof.Rows L2
open Sem (wp)
/-! ### enumerate(tuple) -/
theorem meets_enumerate_newG {v : Value} {o : Obj} {H : Heap → Prop} (B : Begins v o H) :
    Meets (Builtin.«enumerate.__new__» ⟨[.type "enumerate", v], []⟩) (fun _ R s => H s.heap ∧
      R (.ok (.ret (.ref (s.heap.push o).objs.size))) { s with heap := (s.heap.push o).push { cls := .type "enumerate", data := .fields #[.none, .bool false, .ref s.heap.objs.size, rawInt 0, .none, .none] } }) :=
  .of_wp fun prog w A R s h => by
    obtain ⟨hp, g, d, tk, os⟩ := s; obtain ⟨h1, h⟩ := h
    have hsub := sub_enumerate
    have q1 : ∀ {A' : Around} {E : Value → Shared → Prop} {Q : Value → Shared → Prop}, Q (.ref hp.objs.size) ⟨hp.push o, g, d, tk, os⟩ → wpAny (model prog w) A' (pyIter v) Q E ⟨hp, g, d, tk, os⟩ :=
      fun q => B.iter prog w _ _ ⟨hp, g, d, tk, os⟩ _ h1 q
    wp_walk using q1
    refine wpAny_stack_any fun st => wpAny_pure ?_
    split
    · rename_i c _ _ _ _ _
      cases (c == Value.type "enumerate")
      · wp_walk using q1
        exact ⟨_, rfl, h⟩
      · wp_walk using q1
        exact ⟨_, rfl, h⟩
    · wp_walk using q1
      exact ⟨_, rfl, h⟩
theorem call_enumerate_tup {prog : Program} {w : World} {A : Around} {E : Value → Shared → Prop} {s : Shared} {t : Addr} {items : Array Value} {Q : Value → Shared → Prop} (hT : s.heap.IsTuple t items)
    (h : ∀ h', IsEnum h' (s.heap.objs.size + 1) s.heap.objs.size 0 .none → h'.IsTupleIter s.heap.objs.size t 0 → h'.objs.size = s.heap.objs.size + 2 →
      (∀ b o, s.heap.get? b = some o → h'.get? b = some o) → Q (.ref (s.heap.objs.size + 1)) { s with heap := h' }) :
    wpAny (model prog w) A (call (.type "enumerate") [.ref t]) Q E s := by
  refine callType_new F.called_enumerate (by decide) (F.typeCall_enumerate_1 _) (F.newCall_enumerate_1 _) (fun obj => F.args_object_init_2 obj _) F.entry_enumerate_new
    (meets_enumerate_newG (begins_tuple t items)) ⟨hT, ?_⟩
  have hz : (s.heap.push { cls := .type "tuple_iterator", data := .fields #[.ref t, .int 0 0] }).objs.size = s.heap.objs.size + 1 := Heap.size_push ..
  show _ ∧ _
  rw [hz]
  have he : IsEnum ((s.heap.push { cls := .type "tuple_iterator", data := .fields #[.ref t, .int 0 0] }).push
      { cls := .type "enumerate", data := .fields #[.none, .bool false, .ref s.heap.objs.size, rawInt 0, .none, .none] }) (s.heap.objs.size + 1) s.heap.objs.size 0 .none := by
    have := Heap.get?_push_size (s.heap.push { cls := .type "tuple_iterator", data := .fields #[.ref t, .int 0 0] })
      (o := { cls := .type "enumerate", data := .fields #[.none, .bool false, .ref s.heap.objs.size, rawInt 0, .none, .none] }) rfl
    rw [hz] at this; exact this
  exact ⟨⟨_, he, rfl⟩, h _ he ⟨_, Heap.get?_push_of_some _ (Heap.get?_push_size _ rfl), rfl, rfl⟩ (by rw [Heap.size_push, hz]) fun b o x => Heap.get?_push_of_some _ (Heap.get?_push_of_some _ x)⟩
/-- the tuple at a, each item in a new pair -/
def Itet (K : PySem.W.Frag) (a : Addr) : It :=
  ⟨fun i H => ∃ (xs : List V) (x : V), SqT K H a xs ∧ xs[i]? = some x, fun i H v H' => ∃ T x, v = .ref T ∧ H T = none ∧ H' = upd H T (.tup [.int (i : Nat), x]) ∧ ∀ xs, SqT K H a xs → xs[i]? = some x, fun i H => ∃ xs : List V, SqT K H a xs ∧ xs.length ≤ i⟩
theorem tup_ne_iter {h : Heap} {a it : Addr} {items : Array Value} {i : Nat} (ht : h.IsTuple a items) (hit : h.IsTupleIter it a i) : a ≠ it := by
  rintro rfl
  obtain ⟨o, h1, c1, _⟩ := ht
  obtain ⟨o', h2, c2, _⟩ := hit
  rw [h1] at h2
  obtain rfl := Option.some.inj h2
  rw [c1] at c2
  injection c2 with c3
  exact absurd c3 (by decide)
theorem enum_ne_tup {h : Heap} {a e it : Addr} {items : Array Value} {i : Int} {old : Value} (ht : h.IsTuple a items) (he : IsEnum h e it i old) : e ≠ a := by
  rintro rfl
  obtain ⟨o, h1, c1, _⟩ := ht
  have h2 : h.get? e = _ := he
  rw [h1] at h2
  obtain rfl := Option.some.inj h2
  injection c1 with c3
  exact absurd c3 (by decide)
theorem wpAny_pyNext_enum_endX {prog : Program} {w : World} {A : Around} {E : Value → Shared → Prop} {s : Shared} {e it t : Addr} {i : Nat} {items : Array Value} {old : Value} {Q : Option Value → Shared → Prop} (hh : A.handled = none)
    (he : IsEnum s.heap e it i old) (hit : s.heap.IsTupleIter it t i) (ht : s.heap.IsTuple t items) (hx : items[i]? = none)
    (hQ : ∀ h', Heap.ExtBut it s.heap h' → Q none { s with heap := h' }) : wpAny (model prog w) A (pyNext (.ref e)) Q E s := by
  have hT : s.TypeIs (.ref e) "enumerate" := ⟨_, he, rfl⟩
  unfold pyNext
  refine wpAny_bind (wpAny_attempt (wpAny_callSpecial?_slot (name := Str.ofString "__next__") hT F.slot_enumerate_next
    (wpAny_call_entry F.slot_enumerate_next hT F.entry_enumerate_next ?_ (F.args_enumerate_next_1 _))))
  show wpAny _ _ (field (.ref e) 2 >>= _) _ _ _
  refine wpAny_bind (wpAny_field he rfl (x := .ref it) rfl ?_)
  refine wpAny_bind (wpAny_nextOf_tuple_end (show A.in1.handled = none from hh) hit ht hx fun h' x he' hx' => ?_)
  obtain ⟨o, ho, hc⟩ := hx'
  refine wpAny_bind (wpAny_isInstance (T := "StopIteration") (b := true) ⟨o, ho, hc⟩ isSubtype_stop ?_)
  exact wpAny_pure (hQ _ he')
theorem turn_enumT {P : Program} {w : World} {K : PySem.W.Frag} {elts : List Expr} {kk : Nat} {tpos : Pos} (a e it : Addr) :
    Turn P w K (.Tuple elts kk tpos) (Itet K a) [e, it] e (fun i h => (∃ old, IsEnum h e it ((i : Nat) : Int) old) ∧ h.IsTupleIter it a i ∧ e ≠ it) where
  mem := by simp
  obj := fun i h st b hb => by
    obtain ⟨⟨old, he⟩, ⟨o, ho, hc, hd⟩, _⟩ := st
    have e' : b = e ∨ b = it := by simpa using hb
    rcases e' with z | z
    · rw [z]; exact ⟨_, he, fun v q => nomatch q⟩
    · rw [z]; exact ⟨o, ho, fun v q => by rw [hd] at q; cases q⟩
  keep := fun i h h' st k => let ⟨⟨old, he⟩, hi, hne⟩ := st; ⟨⟨old, k e (by simp) _ he⟩, hi.at fun o q => k it (by simp) o q, hne⟩
  item := by
    intro X hP hw hK hc i pins s σ H E I hf st hg
    subst hP hw hK
    obtain ⟨⟨old, he⟩, hit, hne⟩ := st
    obtain ⟨xs, x, hq, hx⟩ := hg
    obtain ⟨its, rv, p, hz⟩ := I.tuple hq
    obtain ⟨u, hu, ru⟩ := rv.get hx
    have hel : e < s.heap.objs.size := Heap.lt_size he
    have hil : it < s.heap.objs.size := by obtain ⟨_, q, _⟩ := hit; exact Heap.lt_size q
    have pT : s.heap.IsTuple a its.toArray := p
    have hai := tup_ne_iter pT hit
    have hei : i < its.toArray.size := by
      have h9 : i < its.length := by
        rw [← rv.length]
        exact (List.getElem?_eq_some_iff.mp hx).1
      simpa using h9
    refine wpAny_pyNext_enum_itemD (Draws.tuple (show X.A.in1.handled = none from I.ok.hd hc) it a hai its.toArray) he ⟨hit, pT⟩ hei hne (fun z => ?_) fun x2 h' tk hP ho hst' hT hsz hk => ?_
    · rcases List.mem_cons.mp z with z | z
      · exact hne z
      · exact enum_ne_tup pT he (by simpa using z)
    have hP2 : its.toArray[i]? = some x2 := hP
    obtain rfl : u = x2 := by
      have h9 : its[i]? = some x2 := by simpa using hP2
      rw [hu] at h9
      exact Option.some.inj h9
    refine ⟨_, rfl, wpAny_letOwnedTupleGo_enum (s := { s with heap := h', toks := tk + 1 }) ho fun h'' he' sb => ?_⟩
    have hT2 : h''.get? s.heap.objs.size = some { cls := .type "tuple", data := .seq #[.int i tk, u] } := (sb.2 _ (Nat.ne_of_gt hel)).trans hT
    have new : ObjOk X.prog X.w (upd H s.heap.objs.size (.tup [.int (i : Nat), x])) h'' s.heap.objs.size (.tup [.int (i : Nat), x]) :=
      ⟨by show 2 ≤ sizeLine; decide, [.int i tk, u], .cons ⟨_, rfl⟩ (.cons ru .nil), ⟨_, hT2, rfl, _, rfl⟩⟩
    have I1 : Inv X pins σ (upd H s.heap.objs.size (.tup [.int (i : Nat), x])) { s with heap := h'', toks := tk + 1 } :=
      I.turnedNew (ch := [e, it]) (fun b ob hb q => (sb.2 b (fun z => hb (by simp [z]))).trans (hk b ob (fun z => hb (by simp [z])) (fun z => hb (by simp [z])) q)) hf (Nat.le_refl _) new
    refine ⟨.ref s.heap.objs.size, _, I1, rfl, ⟨_, x, rfl, I.hok.fresh (Nat.le_refl _), rfl, fun ys hy => by rw [I.tuple_inj hy hq]; exact hx⟩, ⟨⟨u, ?_⟩, hst'.1.at fun o q => (sb.2 it (Ne.symm hne)).trans q, hne⟩, fun b hb => ?_⟩
    · have e1 : ((i + 1 : Nat) : Int) = (i : Int) + 1 := by omega
      rw [e1]; exact he'
    · have hb' : b < s.heap.objs.size := by
        have e' : b = e ∨ b = it := by simpa using hb
        rcases e' with z | z
        · rw [z]; exact hel
        · rw [z]; exact hil
      rw [upd_ne (Nat.ne_of_lt hb')]
      exact (hf b hb).1
  done := by
    intro X hP hw hK hc i pins s σ H E I hf st hg
    subst hP hw hK
    obtain ⟨⟨old, he⟩, hit, hne⟩ := st
    obtain ⟨xs, hq, hx⟩ := hg
    obtain ⟨its, rv, p, hz⟩ := I.tuple hq
    obtain ⟨f0, f1, f2, f3, f4, f5⟩ := hf it (by simp)
    have pT : s.heap.IsTuple a its.toArray := p
    have hl := rv.length
    refine wpAny_pyNext_enum_endX (I.ok.hd hc) he hit pT (by simp; omega) fun h' eb => ⟨rfl, I.turned (t' := s.toks) (fun b o hb q => eb b o hb q) f0 f1 f3 f4 f5⟩
  self := fun A i s Q E st h => let ⟨⟨_, he⟩, _⟩ := st; wpAny_pyIter_enum he h
def iEnumT (K : PySem.W.Frag) (ta : TA) : TI := fun σ H R => ta σ H fun vs H1 => ∃ a xs, vs = [.ref a] ∧ SqT K H1 a xs ∧ R (Itet K a) H1
theorem pi_enumT {X : Cx} {e : Expr} {ta : TA} {p pos tpos : Pos} {elts : List Expr} {kk : Nat} (hg : Gl X "enumerate") (hm : X.mg "enumerate" = none) (ha : PA X [e] ta) (hs : starEach [e] X.env = [(false, eval e X.env)] := by rfl) :
    PI X (.Tuple elts kk tpos) (.Call (.Name "enumerate" p) [e] [] pos) (iEnumT X.K ta) := by
  refine ⟨fun pins s σ H R I h => ?_⟩
  refine Call_ (ld_blt I hg hm boot_enumerate (PyProof.Rows.callWith_type1 (thn (ha.run pos pins s σ H _ I h) fun us s1 ⟨vs, H1, I1, r1, q1⟩ => ?_) hs rfl))
  obtain ⟨a, xs, ex, hq, q⟩ := q1
  subst ex
  cases r1 with
  | cons r rr =>
    cases rr
    cases r
    obtain ⟨its, rv, p', hz⟩ := I1.tuple hq
    refine call_enumerate_tup (show s1.heap.IsTuple a its.toArray from p') fun h' he hit hsz hk => wpAny_pyIter_enum he ?_
    have I2 : Inv X pins σ H1 { s1 with heap := h' } := I1.kept (t' := s1.toks) hk
    refine ⟨s1.heap.objs.size + 1, [s1.heap.objs.size + 1, s1.heap.objs.size], _, _, H1, rfl, I2, turn_enumT a (s1.heap.objs.size + 1) s1.heap.objs.size, ⟨⟨.none, he⟩, hit, Nat.succ_ne_self _⟩, fun b hb => ?_, q⟩
    have e' : b = s1.heap.objs.size + 1 ∨ b = s1.heap.objs.size := by simpa using hb
    have hle : s1.heap.objs.size ≤ b := by
      rcases e' with z | z
      · rw [z]; exact Nat.le_add_right _ _
      · rw [z]; exact Nat.le_refl _
    exact I1.fpOk hle (I1.hok.fresh hle)
/-! ### sorted(xs) of tuples of ints, also of at most one -/
theorem sort_short {prog : Program} {w : World} {A : Around} {E : Value → Shared → Prop} {s : Shared} {a : Addr} {vs : List Value} {n : Nat} {P : PySem.Fin → Shared → Prop} (ho : s.heap.get? a = some (seqObj "list" vs.toArray n)) (h1 : vs.length < 2)
    (h : ∀ out : Array Value, out.toList.Perm vs → P (.done (.ret .none)) { s with heap := sortedHeap s.heap a vs out }) :
    wpAny (model prog w) A (Builtin.«list.sort» ⟨[.ref a], []⟩) P E s :=
  SK.plain_sort (r := fun _ => 0) ho (by omega) (fun h2 Q hQ => absurd h2 (by omega)) fun ps out e1 e2 e3 => h out (TS.out_rank (r := fun _ => 0) e1 e2 e3).1
theorem sorted_short {prog : Program} {w : World} {A : Around} {E : Value → Shared → Prop} {s : Shared} {l : Addr} {vs : List Value} {Q : Value → Shared → Prop} (hl : s.heap.IsList l vs.toArray) (h1 : vs.length < 2)
    (h : ∀ out : Array Value, out.toList.Perm vs → Q (.ref (s.heap.objs.size + 1)) { s with heap := sortedAll s.heap vs out }) :
    wpAny (model prog w) A (call (.builtin "sorted") [.ref l]) Q E s := by
  refine Calls.call_function_entry kind_sorted plain_sorted entry_sorted (args_sorted1 _) ?_
  unfold Builtin.«sorted»
  refine wpAny_bind (m := checkCount "sorted" 1 1 _) (wpAny_pure ?_)
  refine wpAny_bind (collect_list hl ?_ (by rw [sizeLine_eq]; omega))
  refine wpAny_bind (wpAny_newList ?_ (by rw [sizeLine_eq]; omega))
  have hsz : ((s.heap.push (seqObj "list" #[] 0)).update s.heap.objs.size (Obj.mapSeq (· ++ vs.toArray))).objs.size = s.heap.objs.size + 1 := by
    rw [Heap.size_update, size_push']
  have hoL : (((s.heap.push (seqObj "list" #[] 0)).update s.heap.objs.size (Obj.mapSeq (· ++ vs.toArray))).push (seqObj "list" vs.toArray 0)).get? (s.heap.objs.size + 1) = some (seqObj "list" vs.toArray 0) := by
    rw [← hsz]; exact Heap.get?_push_size _ rfl
  show wpAny _ _ _ _ _ { s with heap := ((s.heap.push (seqObj "list" #[] 0)).update s.heap.objs.size (Obj.mapSeq (· ++ vs.toArray))).push (seqObj "list" vs.toArray 0) }
  rw [hsz]
  refine wpAny_bind (wpAny_holding (wpAny_call_entry slot_list_sort ⟨_, hoL, rfl⟩ entry_list_sort (sort_short hoL h1 fun out a1 => ⟨_, rfl, ?_⟩) (args_list_sort _)))
  exact wpAny_pure ⟨_, rfl, h out a1⟩
def rSortA (K : PySem.W.Frag) (B : Int) : List V → Hp → VK → Prop := fun vs H Q => (∃ d, 1 ≤ d ∧ rSortU K d B vs H Q) ∨
  ∃ (a : Addr) (xs : List V), vs = [V.ref a] ∧ SqL K H a xs ∧ xs.length < 2 ∧ (∀ x ∈ xs, ∃ t, x = .ref t) ∧ ∀ p, H p = none → Q (.ref p) (upd H p (.lst xs))
theorem perm_short {α : Type} {l m : List α} (h : l.Perm m) (h1 : m.length < 2) : l = m := by
  cases m with
  | nil => exact List.perm_nil.mp h
  | cons x r =>
    cases r with
    | nil => exact List.perm_singleton.mp h
    | cons y r => exact absurd h1 (by simp)
theorem cr_sortA {X : Cx} {B : Int} : CallR X (.builtin "sorted") (rSortA X.K B) := by
  intro pins s σ H vs us Q I r h
  rcases h with ⟨d, hd, h⟩ | ⟨a, xs, rfl, hs, h1, hx, q⟩
  · exact cr_sortT hd pins s σ H vs us Q I r h
  · obtain ⟨its, rv, hl, hz⟩ := I.list hs
    rw [Vals.ref1 r]
    obtain ⟨e1, e2⟩ := bkV_refs rv hx
    refine sorted_short hl.isList (by rw [← rv.length]; exact h1) fun out p1 => ?_
    · obtain ⟨ep, he'⟩ := PyProof.Rows.sortedAll_at s.heap its out
      have e9 : out.toList = its := perm_short p1 (by rw [← rv.length]; exact h1)
      refine ⟨.ref _, upd H (s.heap.objs.size + 1) (.lst xs), I.laid (t' := s.toks) (fun _ _ => PyProof.Rows.sortedAll_old) (Nat.le_succ _) ⟨hz, out.toList, ep, by rw [e9]; exact rv, he'⟩, rfl, q _ (I.hok.fresh (Nat.le_succ _))⟩
theorem walk_enumT {K : PySem.W.Frag} {a : Addr} {xs : List V} : Walk (Itet K a) xs.length (fun H => SqT K H a xs) (YPair (fun i => some (.int (i : Nat))) (fun i => xs[i]?)) := by
  refine ⟨fun i _ hi q => ⟨xs, xs[i], q, by simp [hi]⟩, fun _ q => ⟨xs, q, Nat.le_refl _⟩, fun i H v H' _ q y => ?_⟩
  obtain ⟨T, x, h1, h2, h3, h4⟩ := y
  exact ⟨T, .int (i : Nat), x, h1, h2, h3, rfl, h4 xs q⟩
end Ef
set_option maxHeartbeats 4000000
namespace Ef
open PySem PySem.Spec PyProof.Rows L2
/-! ### sorted(t) of a tuple of ints -/
section
variable {prog : Program} {w : World} {A : Around} {E : Value → Shared → Prop} {s : Shared}
theorem collect_tup {l : Addr} {vs : List Value} {Q : List Value → Shared → Prop} (hl : s.heap.IsTuple l vs.toArray) (hn : vs.length ≤ sizeLine)
    (h : Q vs { s with heap := (s.heap.push (seqObj "list" #[] 0)).update s.heap.objs.size (Obj.mapSeq (· ++ vs.toArray)) }) : wpAny (model prog w) A (collect (.ref l)) Q E s := by
  obtain ⟨o, ho, hc, n, hd⟩ := hl
  have h2 : (s.heap.push (seqObj "list" #[] 0)).get? l = some o := Heap.get?_push_of_some _ ho
  have h3 : (s.heap.push (seqObj "list" #[] 0)).get? s.heap.objs.size = some (seqObj "list" #[] 0) := Heap.get?_push_size _ rfl
  have h4 : ((#[] : Array Value) ++ vs.toArray).toList = vs := by simp
  have h5 : (#[] ++ vs.toArray).size ≤ sizeLine + 1 := by
    simp only [Array.size_append, List.size_toArray, List.length_nil]
    omega
  unfold collect
  refine wpAny_bind (wpAny_runValue (codeAny_builtin entry_proto_collect' (show wpAny _ _ (do again (.builtin "list.__iadd__" ⟨[← newList [], .ref l], []⟩)) _ _ s from ?_)))
  refine wpAny_bind (wpAny_newList (wpAny_pure ⟨Code.quiet_builtin _ (by decide +kernel), codeAny_builtin entry_list_iadd' (show wpAny _ _ (Builtin.List.listExtendWith (.ref s.heap.objs.size) (.ref l) (.ref s.heap.objs.size)) _ _ { s with heap := s.heap.push (seqObj "list" #[] 0) } from ?_)⟩))
  unfold Builtin.List.listExtendWith
  refine wpAny_bind (wpAny_typeOf (T := "tuple") ⟨o, h2, hc⟩ ?_)
  rw [if_pos (by rw [show (Value.type "tuple" == Value.type "tuple") = true from rfl]; simp)]
  refine wpAny_bind (listItems_at h2 hd (wpAny_bind (listItems_at (xs := #[]) (n := 0) h3 rfl ?_)))
  rw [if_neg (by simp)]
  refine wpAny_bind (listUpdate_at (xs := #[]) (n := 0) h3 rfl (wpAny_pure ?_) (Nat.zero_le _) h5)
  show wpAny (model prog w) A (do
      let o ← load s.heap.objs.size
      match o.data with
      | .seq ys _ => pure ys.toList
      | _ => unsupported "internal:collect") Q E { s with heap := (s.heap.push (seqObj "list" #[] 0)).update s.heap.objs.size (Obj.mapSeq (· ++ vs.toArray)) }
  refine wpAny_bind (wpAny_load (get?_update_seq h3 _) (show wpAny _ _ (pure ((#[] : Array Value) ++ vs.toArray).toList) Q E _ from ?_))
  rw [h4]
  exact wpAny_pure h
theorem sorted_tup {l : Addr} {vs : List Value} {ns : List Int} {Q : Value → Shared → Prop} (hl : s.heap.IsTuple l vs.toArray) (hI : IntsAre vs ns) (hn : vs.length < 64)
    (h : ∀ (out : Array Value) (ns' : List Int), IntsAre out.toList ns' → ns'.Perm ns → ns'.Pairwise (· ≤ ·) → Q (.ref (s.heap.objs.size + 1)) { s with heap := sortedAll s.heap vs out }) :
    wpAny (model prog w) A (call (.builtin "sorted") [.ref l]) Q E s := by
  refine Calls.call_function_entry kind_sorted plain_sorted entry_sorted (args_sorted1 (.ref l)) ?_
  unfold Builtin.«sorted»
  refine wpAny_bind (m := checkCount "sorted" 1 1 _) (wpAny_pure (wpAny_bind (collect_tup hl (by rw [sizeLine_eq]; omega) (wpAny_bind (wpAny_newList ?_ (by rw [sizeLine_eq]; omega))))))
  have z1 : ((s.heap.push (seqObj "list" #[] 0)).update s.heap.objs.size (Obj.mapSeq (· ++ vs.toArray))).objs.size = s.heap.objs.size + 1 := (Heap.size_update ..).trans (size_push' ..)
  have z2 := Heap.get?_push_size ((s.heap.push (seqObj "list" #[] 0)).update s.heap.objs.size (Obj.mapSeq (· ++ vs.toArray))) (o := seqObj "list" vs.toArray 0) rfl
  rw [z1] at z2
  show wpAny _ _ _ _ _ { s with heap := ((s.heap.push (seqObj "list" #[] 0)).update s.heap.objs.size (Obj.mapSeq (· ++ vs.toArray))).push (seqObj "list" vs.toArray 0) }
  rw [z1]
  refine wpAny_bind (wpAny_holding (wpAny_call_entry slot_list_sort ⟨_, z2, rfl⟩ entry_list_sort (list_sort_tree z2 hI hn fun out ns' a1 a2 a3 => ⟨_, rfl, wpAny_pure ⟨_, rfl, h out ns' a1 a2 a3⟩⟩) (args_list_sort _)))
end
def rSortTI (K : PySem.W.Frag) : List V → Hp → VK → Prop := fun vs H Q => ∃ (a : Addr) (ns : List Int), vs = [V.ref a] ∧ (SqL K H a (ns.map V.int) ∨ SqT K H a (ns.map V.int)) ∧ ns.length < 64 ∧
  ∀ (ns' : List Int) (p : Addr), ns'.Perm ns → ns'.Pairwise (· ≤ ·) → H p = none → Q (.ref p) (upd H p (.lst (ns'.map V.int)))
section
variable {X : Cx} (K : PySem.W.Frag)
theorem cr_sortTI (h : X.K = K := by rfl) : CallR X (.builtin "sorted") (rSortTI K) := by
  subst h
  intro pins s σ H vs us Q I r h
  obtain ⟨a, ns, rfl, hs | hs, h64, q⟩ := h
  · exact cr_sorted pins s σ H _ us Q I r ⟨a, ns, rfl, hs, h64, q⟩
  · obtain ⟨its, rv, hl, hz⟩ := I.tuple hs
    rw [Vals.ref1 r]
    have hi := rv.ints
    refine sorted_tup (show s.heap.IsTuple a its.toArray from hl) hi (by rw [hi.length]; exact h64) fun out ns' h1 h2 h3 => ?_
    obtain ⟨ep, he'⟩ := PyProof.Rows.sortedAll_at s.heap its out
    have hlen : (ns'.map V.int).length ≤ sizeLine := by
      rw [List.length_map, h2.length_eq]
      exact small64 h64
    exact ⟨.ref _, upd H (s.heap.objs.size + 1) (.lst (ns'.map V.int)), I.laid (t' := s.toks) (fun _ _ => PyProof.Rows.sortedAll_old) (Nat.le_succ _) ⟨hlen, out.toList, ep, vals_of_ints h1, he'⟩, rfl, q ns' _ h2 h3 (I.hok.fresh (Nat.le_succ _))⟩
end
end Ef
namespace Ef
open PySem PySem.Spec PyProof.Rows L2
/-! ### repr of a list of one value of any sort -/
section
variable {X : Cx} {es : List Expr} {t : TA} {pos : Pos}
def tLstN (t : TA) : TE := fun σ H Q => t σ H fun xs H1 => xs.length ≤ sizeLine ∧ ∀ p, H1 p = none → p ≠ sysModules → Q (.ref p) (upd H1 p (.lst xs))
theorem far_new {pins : List (Addr × Obj)} {σ : L2.St} {H : Hp} {s : Shared} (I : Inv X pins σ H s) : s.heap.objs.size ≠ sysModules := by
  obtain ⟨mc, h1, _⟩ := I.nolimit
  have h2 : cStatics < s.heap.objs.size := h1.lt
  have h3 : (2 : Nat) < s.heap.objs.size := h2
  show ¬ s.heap.objs.size = 1
  omega
theorem pe_lstN (h : PA X es t) : PE X (.List es pos) (tLstN t) := by
  refine ⟨fun pins s σ H Q I hq => ?_⟩
  refine wpAny_List_spliced (thn (h.run pos pins s σ H _ I hq) fun us s1 ⟨xs, H1, I1, r, z, q⟩ => ⟨by rw [← r.length]; exact z, ?_⟩)
  have hf : H1 s1.heap.objs.size = none := I1.hok.fresh (Nat.le_refl _)
  refine ⟨.ref s1.heap.objs.size, upd H1 s1.heap.objs.size (.lst xs), I1.laid (t' := s1.toks) (fun b u e => Heap.get?_push_of_some _ e) (Nat.le_refl _) ?_, rfl, q _ hf (far_new I1)⟩
  exact ⟨z, us, 0, r, Heap.get?_push_size _ rfl⟩
end
/-- data that is not deep, or an empty dict -/
def ItemS (K : PySem.W.Frag) (H : Hp) (v : V) (d : PyData) : Prop := (Dp K H v d ∧ Sh 50 70000 d) ∨ (d = .dict [] ∧ ∃ p, v = .ref p ∧ H p = some (.dK []))
theorem ItemS.mono {K : PySem.W.Frag} {H H' : Hp} {v : V} {d : PyData} (s : Same H H') (h : ItemS K H v d) : ItemS K H' v d := by
  rcases h with ⟨h, h2⟩ | ⟨e, p, e2, h⟩
  · exact .inl ⟨Dp.mono s h, h2⟩
  · exact .inr ⟨e, p, e2, s _ _ h⟩
def rReprL (K : PySem.W.Frag) : List V → Hp → VK → Prop := fun xs H Q => ∃ l v d, xs = [.ref l] ∧ H l = some (.lst [v]) ∧ l ≠ sysModules ∧ ItemS K H v d ∧ Q (.str (PyData.list [d]).shown) H
section
variable {X : Cx} (K : PySem.W.Frag)
theorem call_reprL (gd : X.A.guards = some []) (hu : X.A.units + 66 < cLine) (h : X.K = K := by rfl) : CallR X (.builtin "repr") (rReprL K) := by
  subst h
  intro pins s σ H xs us Q I r h
  obtain ⟨l, v, d, rfl, hl, hne, hI, q⟩ := h
  rcases hI with ⟨hD, hS⟩ | ⟨rfl, p, rfl, hp⟩
  · refine call_reprD gd hu pins s σ H _ us Q I r ⟨.ref l, .list [d], rfl, .lst (SqL.of hl) (.cons hD .nil), ?_, q⟩
    exact (Sh.lst (ShAll.cons hS (ShAll.nil.mono (Nat.zero_le 50) (Nat.zero_le 0)))).mono (by decide) (by decide)
  · obtain ⟨u, rfl, ru⟩ := vals1 r
    obtain rfl : u = Value.ref l := ru
    obtain ⟨_, hsys, vs, kv, o, es, ep, ho, hx, hd, hk, hpr, hn⟩ := dk_of I.hok hp
    have e1 : vs = [] := by
      cases kv
      rfl
    subst e1
    have e2 : es.toList = [] := by
      generalize es.toList = l at hpr ⊢
      cases hpr
      rfl
    have rd : Reads s.heap (.ref p) (.dict []) (p :: [] ++ []) := by
      refine .dict ho hx.1 hd ?_ ?_
      · rw [e2]
        exact .nil
      · rw [e2]
        exact .nil
    obtain ⟨its, rv, ⟨ol, nl, g1, g2, g3, g4⟩, hz⟩ := I.list (SqL.of hl)
    obtain ⟨u, rfl, ru⟩ := vals1 rv
    obtain rfl : u = Value.ref p := ru
    have dep : PyData.depth (.list [.dict []]) ≤ 3 := by decide
    have rdl : Reads s.heap (.ref l) (.list [.dict []]) (l :: ((p :: [] ++ []) ++ [])) := .list g1 g2 (by first | exact g3 | exact g4) (.cons rd .nil)
    refine repr_of_reads' rdl rfl (fun _ hm => ?_) gd (by omega) (fun _ _ e => e) (fun h' u tk hk => ?_) (by decide +kernel)
    · have e3 : sysModules = l ∨ sysModules = p := by simpa using hm
      rcases e3 with e3 | e3
      · exact hne e3.symm
      · rw [← e3] at hsys
        exact absurd hsys (by simp)
    · exact ⟨.str _, H, I.kept hk, ⟨u, rfl⟩, q⟩
end
section
variable {X : Cx} (K : PySem.W.Frag)
theorem cr_allK (hc : X.calm = true := by rfl) (h : X.K = K := by rfl) : CallR X (.builtin "all") (rAll K) := h ▸ cr_all hc
end
end Ef
namespace Ef
open PySem PySem.Spec PyProof.Rows L2
/-! ### data: equal to itself, shown -/
theorem neD_same {K : PySem.W.Frag} {H : Hp} {x y : V} {d : PyData} {Q : VK} (hx : Dp K H x d) (hy : Dp K H y d) (s : Sh 60 80000 d) (q : Q (.bl false) H) : rNeD K x y H Q := by
  refine ⟨d, d, hx, hy, s.shaped (by decide), s.shaped (by decide), ?_⟩
  rw [SeqAt.eqv_refl d s.can]
  exact q
theorem eqD_same {K : PySem.W.Frag} {H : Hp} {x y : V} {d : PyData} {Q : VK} (hx : Dp K H x d) (hy : Dp K H y d) (s : Sh 60 80000 d) (q : Q (.bl true) H) : rEqD K x y H Q := by
  refine ⟨d, d, hx, hy, s.shaped (by decide), s.shaped (by decide), ?_⟩
  rw [SeqAt.eqv_refl d s.can]
  exact q
/-- numbers as data -/
def natD (ms : List Nat) : List PyData := ms.map fun (m : Nat) => PyData.int (m : Int)
theorem sh_nat {ms : List Nat} {b : Nat} (h0 : 0 < b) (h6 : b ≤ 600) (h : ∀ x ∈ ms, x < 2 ^ b) : ShAll 0 ((b + 1) * ms.length) (natD ms) := by
  have e : natD ms = (ms.map fun (m : Nat) => (m : Int)).map PyData.int := by
    unfold natD
    rw [List.map_map]
    rfl
  rw [e]
  have h1 := ShAll.ints h0 h6 (ns := ms.map fun (m : Nat) => (m : Int)) fun x hx => by
    obtain ⟨m, hm, rfl⟩ := List.mem_map.mp hx
    exact h m hm
  rw [List.length_map] at h1
  exact h1
theorem sh_list {ms : List Nat} (hl : ms.length ≤ 60) (h : ∀ x ∈ ms, x < 60) : Sh 1 500 (.tuple (natD ms)) := by
  have h1 := sh_nat (b := 6) (by decide) (by decide) (ms := ms) fun x hx => by
    have := h x hx
    omega
  exact Sh.tup (h1.mono (by decide) (by omega))
end Ef
set_option maxHeartbeats 4000000
namespace Ef
open PySem PySem.Spec PyProof.Rows L2
/-! ### x in l, l.index(x), l.count(x) where items are data -/
def rCntD (K : PySem.W.Frag) : V → List V → Hp → VK → Prop := fun x xs H Q => ∃ (a : Addr) (y : V) (d : PyData) (ds : List PyData), x = V.ref a ∧ xs = [y] ∧ Dp K H (V.ref a) (.list ds) ∧ Dp K H y d ∧
  SeqAt.shaped (.list ds) = true ∧ SeqAt.shaped d = true ∧ Q (.int (ds.countP (fun z => PyData.eqv z d) : Nat)) H
theorem mt_countD {X : Cx} (hu : X.A.units + 65 < cLine) : MtR X "list.count" (rCntD X.K) := by
  intro pins s σ H x xs v us Q I rx rxs h
  obtain ⟨a, y, d, ds, rfl, rfl, hl, hy, sl, sd, q⟩ := h
  cases rx
  cases rxs with
  | cons ry rt =>
    rename_i uy ut
    cases rt
    obtain ⟨bs, r1⟩ := Dp.reads I d y uy hy ry
    have hxs : PyData.canLayAll0 ds = true := SeqAt.canLay_of_shaped sl
    have hroom : X.A.units + 1 + min (PyData.depthAll ds) d.depth < cLine := room_in_shaped sd hu
    cases hl with
    | lst hs ha =>
      obtain ⟨its, rv, ⟨⟨cls, dd, data, sls⟩, n, ho, hc, hdn, hdt⟩, hlen⟩ := I.list hs
      simp only at hc hdt
      subst hc hdt
      obtain ⟨as, h4⟩ := Dp.readsAll I ds _ its ha rv
      have hmap : its.map (SeqAt.readOf s.heap) = ds := SeqAt.readsAll_map ds its as hxs h4
      refine call_meets PySem.F.slot_list_count ⟨_, ho, rfl⟩ PySem.F.entry_list_count (PySem.F.args_list_count_2 _ _)
        (SeqAt.list_countAt a its.toArray n dd sls uy (fun u => PyData.eqv (SeqAt.readOf s.heap u) d)) ⟨ho, SeqAt.items_eqAt (vs := its.toArray) (show ReadsAll s.heap its.toArray.toList ds as from h4) r1 hxs (SeqAt.canLay_of_shaped sd) hroom, ?_⟩
      refine ⟨.int (ds.countP (fun z => PyData.eqv z d) : Nat), H, I.tok _, ⟨s.toks, ?_⟩, q⟩
      show Value.int ((its.toArray.toList.countP (fun u => PyData.eqv (SeqAt.readOf s.heap u) d) : Nat) : Int) s.toks = _
      rw [← hmap, List.countP_map]
      rfl
theorem op_inDK {X : Cx} (K : PySem.W.Frag) (hu : X.A.units + 65 < cLine) (h : X.K = K := by rfl) : OpR X (compareOp .In) (rInD K) := h ▸ op_inD hu
theorem op_notInDK {X : Cx} (K : PySem.W.Frag) (hu : X.A.units + 65 < cLine) (h : X.K = K := by rfl) : OpR X (compareOp .NotIn) (rNotInD K) := h ▸ op_notInD hu
theorem mt_indexDK {X : Cx} (K : PySem.W.Frag) (hu : X.A.units + 65 < cLine) (h : X.K = K := by rfl) : MtR X "list.index" (rIndexD K) := h ▸ mt_indexD hu
theorem mt_countDK {X : Cx} (K : PySem.W.Frag) (hu : X.A.units + 65 < cLine) (h : X.K = K := by rfl) : MtR X "list.count" (rCntD K) := h ▸ mt_countD hu
/-- two lists of numbers, as data -/
theorem eqv_nats : ∀ (a b : List Nat), PyData.eqvAll (natD a) (natD b) = decide (a = b)
  | [], [] => by simp [natD, PyData.eqvAll]
  | [], b :: s => by simp [natD, PyData.eqvAll]
  | a :: r, [] => by simp [natD, PyData.eqvAll]
  | a :: r, b :: s => by
    have ih := eqv_nats r s
    have e : PyData.eqvAll (natD (a :: r)) (natD (b :: s)) = (((a : Int) == (b : Int)) && PyData.eqvAll (natD r) (natD s)) := by
      show PyData.eqvAll (PyData.int (a : Int) :: natD r) (PyData.int (b : Int) :: natD s) = _
      simp only [PyData.eqvAll, PyData.eqv]
    rw [e, ih]
    by_cases h1 : a = b
    · subst h1
      by_cases h2 : r = s
      · subst h2
        simp
      · simp [h2]
    · have h3 : ((a : Int) == (b : Int)) = false := beq_eq_false_iff_ne.mpr fun z => h1 (by omega)
      rw [h3]
      simp [h1]
theorem eqv_natT (a b : List Nat) : PyData.eqv (.tuple (natD a)) (.tuple (natD b)) = decide (a = b) := by
  simp only [PyData.eqv]
  exact eqv_nats a b
end Ef
set_option maxHeartbeats 4000000
namespace Ef
open PySem PySem.Spec PyProof.Rows L2
open PySem.W (dataLe AllAlike Sortable EachIs sorted_data sortLe_total TotalLe dataLt dataLt_tuple dataLt_ints)
/-! ### sorted of a list of data, any number of them -/
abbrev dLe : V × PyData → V × PyData → Bool := dataLe false (fun b : V × PyData => b.2)
def rSortD (K : PySem.W.Frag) : List V → Hp → VK → Prop := fun vs H Q => ∃ (a : Addr) (bs : List (V × PyData)), vs = [V.ref a] ∧ SqL K H a (bs.map (·.1)) ∧ (∀ b ∈ bs, Dp K H b.1 b.2) ∧ AllAlike (bs.map (·.2)) ∧ Sortable (bs.map (·.2)) ∧ (∀ b ∈ bs, b.2.depth ≤ 20) ∧
  ∀ p : Addr, H p = none → Q (.ref p) (upd H p (.lst ((bs.mergeSort dLe).map (·.1))))
theorem each_vals : ∀ {bs : List (V × PyData)} {us : List Value}, Vals (bs.map (·.1)) us → EachIs (fun u (b : V × PyData) => RelV b.1 u) us bs
  | [], _, .nil => .nil
  | _ :: _, _, .cons r t => .cons r (each_vals t)
theorem vals_each : ∀ {bs : List (V × PyData)} {us : List Value}, EachIs (fun u (b : V × PyData) => RelV b.1 u) us bs → Vals (bs.map (·.1)) us
  | [], _, .nil => .nil
  | _ :: _, _, .cons r t => .cons r (vals_each t)
section
variable {X : Cx} {K : PySem.W.Frag}
theorem each_reads {pins : List (Addr × Obj)} {σ : L2.St} {H : Hp} {s : Shared} (I : Inv X pins σ H s) : ∀ {bs : List (V × PyData)} {us : List Value}, (∀ b ∈ bs, Dp X.K H b.1 b.2) → EachIs (fun u (b : V × PyData) => RelV b.1 u) us bs → EachIs (fun u (b : V × PyData) => ∃ as, Reads s.heap u b.2 as) us bs
  | [], _, _, .nil => .nil
  | b :: _, _, h, .cons r t => .cons (Dp.reads I b.2 b.1 _ (h b List.mem_cons_self) r) (each_reads I (fun c hc => h c (List.mem_cons_of_mem _ hc)) t)
theorem cr_sortD (hu : X.A.units + 64 < cLine) (h : X.K = K := by rfl) : CallR X (.builtin "sorted") (rSortD K) := by
  subst h
  intro pins s σ H vs us Q I r hq
  obtain ⟨a, bs, rfl, hs, hd, hal, hk, hdp, q⟩ := hq
  obtain ⟨its, rv, hl, hz⟩ := I.list hs
  obtain ⟨u, rfl, ru⟩ := vals1 r
  obtain rfl : u = Value.ref a := ru
  have ee := each_vals rv
  have hz2 : bs.length ≤ sizeLine := by
    rw [List.length_map] at hz
    exact hz
  refine sorted_data (β := V × PyData) (bs := bs) (enc := fun b : V × PyData => b.2) (R := fun u (b : V × PyData) => RelV b.1 u) hl.isList ee (each_reads I hd ee) hal hk hz2 (fun b hb => by have := hdp b hb; omega) fun out hlen eo => ?_
  obtain ⟨n, hn⟩ := sortedAll_at s.heap its out.toArray
  refine ⟨.ref _, upd H (s.heap.objs.size + 1) (.lst ((bs.mergeSort dLe).map (·.1))), I.laid (t' := s.toks) (fun _ _ z => sortedAll_old z) (Nat.le_succ _) ⟨?_, out, n, vals_each eo, ?_⟩, rfl, q _ (I.hok.fresh (Nat.le_succ _))⟩
  · rw [List.length_map, List.length_mergeSort]
    exact hz2
  · simpa using hn
end
theorem sl_listK {X : Cx} {K : PySem.W.Frag} (h : X.K = K := by rfl) : SlR X (rSlL K) := h ▸ sl_list
def rDictP (K : PySem.W.Frag) : List V → Hp → VK → Prop := fun xs H Q => ∃ (a : Addr) (ps : List Addr) (kvs : List (Key × V)), xs = [.ref a] ∧ SqL K H a (ps.map V.ref) ∧ Paired (fun p kv => SqT K H p [kV kv.1, kv.2]) ps kvs ∧ ∀ p, H p = none → Q (.ref p) (upd H p (.dK (mergeK [] kvs)))
theorem call_dictPK {X : Cx} {K : PySem.W.Frag} (hc : X.calm = true) (h : X.K = K := by rfl) : CallR X (.type "dict") (rDictP K) := by
  subst h
  exact call_dictP hc
/-! the order -/
theorem dLe_ord : TotalLe dLe := sortLe_total _ false _
theorem dLe_trans (a b c : V × PyData) (h1 : dLe a b = true) (h2 : dLe b c = true) : dLe a c = true := dLe_ord.trans a b c h1 h2
theorem dLe_total (a b : V × PyData) : (dLe a b || dLe b a) = true := (Bool.or_eq_true _ _).mpr (dLe_ord.total a b)
theorem dsort_perm (bs : List (V × PyData)) : (bs.mergeSort dLe).Perm bs := List.mergeSort_perm bs dLe
theorem dsort_asc (bs : List (V × PyData)) : (bs.mergeSort dLe).Pairwise fun a b => dLe a b = true := List.pairwise_mergeSort dLe_trans dLe_total bs
theorem dsort_id {bs : List (V × PyData)} (h : bs.Pairwise fun a b => dLe a b = true) : bs.mergeSort dLe = bs := List.mergeSort_of_pairwise h
theorem dLe_lt (a b : V × PyData) : dLe a b = !dataLt b.2 a.2 := rfl
theorem dLe_ints {u v : V} {xs ys : List Int} : dLe (u, .tuple (xs.map .int)) (v, .tuple (ys.map .int)) = !decide (ys < xs) := by
  rw [dLe_lt]
  show (!dataLt (.tuple (ys.map .int)) (.tuple (xs.map .int))) = _
  rw [dataLt_tuple]
  exact congrArg (!·) (dataLt_ints ys xs)
end Ef
namespace Ef
open PySem PySem.Spec PyProof.Rows L2
/-! ### a comprehension within a comprehension -/
theorem lookup_map (c : Str → NameKind → Bool) (x : Str) : ∀ names : List (Str × NameKind), (names.lookup x = some .cell ∨ names.lookup x = some .free) → ((names.map fun (n, k) => if c n k = true then (n, NameKind.cell) else (n, k)).lookup x = some .cell ∨ (names.map fun (n, k) => if c n k = true then (n, NameKind.cell) else (n, k)).lookup x = some .free)
  | [], h => by simp at h
  | (n, k) :: r, h => by
    rw [List.map_cons]
    by_cases e : x == n
    · rw [List.lookup_cons, e] at h
      by_cases cc : c n k = true
      · simp only [cc, if_true]
        rw [List.lookup_cons, e]
        exact .inl rfl
      · simp only [cc, Bool.false_eq_true, if_false]
        rw [List.lookup_cons, e]
        exact h
    · have e2 : (x == n) = false := by simpa using e
      rw [List.lookup_cons, e2] at h
      have ih := lookup_map c x r h
      by_cases cc : c n k = true
      · simp only [cc, if_true]
        rw [List.lookup_cons, e2]
        exact ih
      · simp only [cc, Bool.false_eq_true, if_false]
        rw [List.lookup_cons, e2]
        exact ih
theorem blkOk_in {N : List Str} {sc scope : Scope} {own : List (Str × Nat)} {env : Env} (h : BlkOk N sc scope own) : BlkOk N (relabel sc env) scope own :=
  ⟨h.kind, h.uniq, h.ix, fun y hy e => lookup_map (fun n k => k == NameKind.free && env.scope.kind == .function && env.kindOf n == some .cell) y.1 sc.names (h.free y hy e), h.own⟩
end Ef
set_option maxHeartbeats 4000000
namespace Ef
open PySem PySem.Spec PyProof.Rows L2
/-! ### set(t) of a tuple of ints with its size, len(s) of a set -/
/-- c is the number of different ones among ns -/
def Diff (ns : List Int) (c : Nat) : Prop := ∃ ks : List Int, ks.Nodup ∧ (∀ k, k ∈ ks ↔ k ∈ ns) ∧ ks.length = c
theorem Diff.nodup {ns : List Int} {c : Nat} (h : Diff ns c) (hn : ns.Nodup) : c = ns.length := by
  obtain ⟨ks, h1, h2, rfl⟩ := h
  exact ((List.perm_ext_iff_of_nodup h1 hn).mpr h2).length_eq
theorem sub_len : ∀ {ks ns : List Int}, ks.Nodup → (∀ k ∈ ks, k ∈ ns) → ks.length ≤ ns.length
  | [], _, _, _ => Nat.zero_le _
  | k :: r, ns, h, hs => by
    have hk := hs k List.mem_cons_self
    have h1 := sub_len (ks := r) (ns := ns.erase k) (List.nodup_cons.mp h).2 fun x hx => (List.mem_erase_of_ne (fun e : x = k => (List.nodup_cons.mp h).1 (e ▸ hx))).mpr (hs x (List.mem_cons_of_mem _ hx))
    have h2 := List.length_erase_of_mem hk
    have h3 := List.length_pos_of_mem hk
    show r.length + 1 ≤ ns.length
    omega
theorem sub_perm : ∀ {ks ns : List Int}, ks.Nodup → (∀ k ∈ ks, k ∈ ns) → ns.length ≤ ks.length → ks.Perm ns
  | [], ns, _, _, h => by
    have : ns = [] := List.length_eq_zero_iff.mp (Nat.le_zero.mp h)
    rw [this]
  | k :: r, ns, h, hs, hl => by
    have hk := hs k List.mem_cons_self
    have h2 := List.length_erase_of_mem hk
    have hl2 : ns.length ≤ r.length + 1 := hl
    have h1 := sub_perm (ks := r) (ns := ns.erase k) (List.nodup_cons.mp h).2 (fun x hx => (List.mem_erase_of_ne (fun e : x = k => (List.nodup_cons.mp h).1 (e ▸ hx))).mpr (hs x (List.mem_cons_of_mem _ hx))) (by omega)
    exact (h1.cons k).trans (List.perm_cons_erase hk).symm
theorem Diff.le {ns : List Int} {c : Nat} (h : Diff ns c) : c ≤ ns.length := by
  obtain ⟨ks, h1, h2, rfl⟩ := h
  exact sub_len h1 fun k hk => (h2 k).mp hk
theorem Diff.not {ns : List Int} {c : Nat} (h : Diff ns c) (hn : ¬ ns.Nodup) : c ≠ ns.length := by
  intro e
  obtain ⟨ks, h1, h2, rfl⟩ := h
  have p : ks.Perm ns := sub_perm h1 (fun k hk => (h2 k).mp hk) (by omega)
  exact hn (p.nodup_iff.mp h1)
section
variable {X : Cx} {K : PySem.W.Frag} {w : World}
theorem setR_diff {h : Heap} {a : Addr} {ns : List Int} {c : Nat} (R : SetR w h a (fun j => decide (j ∈ ns)) c) : Diff ns c := by
  obtain ⟨o, es, ep, t, _, _, _, _, nd, mem, _, _, sz, _⟩ := R
  refine ⟨es.toList.map keyOf, nd, fun k => ?_, ?_⟩
  · rw [← mem k]
    exact decide_eq_true_iff
  · rw [List.length_map, Array.length_toList]
    exact sz
def rSetTn (K : PySem.W.Frag) (w : World) : List V → Hp → VK → Prop := fun xs H Q => ∃ (l : Addr) (ns : List Int), xs = [.ref l] ∧ (SqT K H l (ns.map V.int)) ∧ ns.length ≤ 1000 ∧
    ∀ (p : Addr) (c : Nat), H p = none → Diff ns c → Q (.ref p) (upd H p (SetO w p (fun j => decide (j ∈ ns)) c))
theorem cr_setTn (hc : X.calm = true) (h : X.K = K := by rfl) (hw : X.w = w := by rfl) : CallR X (.type "set") (rSetTn K w) := by
  subst h hw
  intro pins s σ H xs us Q I r h
  obtain ⟨l, ns, rfl, hq, hl, q⟩ := h
  obtain ⟨u, rfl, ru⟩ := vals1 r
  obtain rfl : u = Value.ref l := ru
  obtain ⟨its, rv, pt, hz⟩ := I.tuple hq
  refine call_set_tupI ns (I.ok.hd hc) (show s.heap.IsTuple l its.toArray from pt) (ints_of_vals rv) (by unfold scanBound; omega) fun h' tk c R1 hcn k => ?_
  exact ⟨.ref _, _, I.laid (t' := tk) k (Nat.le_refl _) (setO_new R1), rfl, q _ c (I.hok.fresh (Nat.le_refl _)) (setR_diff R1)⟩
def rLenSet (w : World) : List V → Hp → VK → Prop := fun xs H Q => ∃ (p : Addr) (S : Int → Bool) (c : Nat), xs = [.ref p] ∧ H p = some (SetO w p S c) ∧ Q (.int (c : Int)) H
theorem call_lenSet (hw : X.w = w := by rfl) : CallR X (.builtin "len") (rLenSet w) := by
  subst hw
  intro pins s σ H xs us Q I r h
  obtain ⟨p, S, c, rfl, hp, q⟩ := h
  obtain ⟨u, rfl, ru⟩ := vals1 r
  obtain rfl : u = Value.ref p := ru
  obtain ⟨o, es, ep, t, ho, hex, hd, _, _, _, sb, hf, hn, _⟩ := setO_get I hp
  have b : (es.size : Int) < 2 ^ 63 := by
    have : scanBound ≤ 2 ^ 62 := by unfold scanBound; decide
    omega
  exact call_len_set ho hex hd hf b ⟨.int c, H, I.tok _, ⟨_, by rw [hn]⟩, q⟩
end
end Ef
namespace Ef
/-! ### the lists ascend -/
abbrev intL (ms : List Nat) : List Int := ms.map fun (m : Nat) => (m : Int)
theorem lt_cons {a b : Int} {l m : List Int} : a :: l < b :: m ↔ a < b ∨ a = b ∧ l < m := List.cons_lt_cons_iff
/-- m is not before l -/
def LexLe (l m : List Nat) : Prop := ¬ intL m < intL l
theorem LexLe.cons_lt {a b : Nat} {l m : List Nat} (h : a < b) : LexLe (a :: l) (b :: m) := fun z => by
  have z2 : ((b : Int) :: intL m) < ((a : Int) :: intL l) := z
  rcases lt_cons.mp z2 with z | ⟨z, _⟩ <;> omega
theorem LexLe.cons_eq {a : Nat} {l m : List Nat} (h : LexLe l m) : LexLe (a :: l) (a :: m) := fun z => by
  have z2 : ((a : Int) :: intL m) < ((a : Int) :: intL l) := z
  rcases lt_cons.mp z2 with z | ⟨_, z⟩
  · omega
  · exact h z
theorem asc_lt {L : List Nat} (a : Asc L) {i j x y : Nat} (hi : L[i]? = some x) (hj : L[j]? = some y) (h : i < j) : x < y := by
  obtain ⟨a1, a2⟩ := List.getElem?_eq_some_iff.mp hi
  obtain ⟨b1, b2⟩ := List.getElem?_eq_some_iff.mp hj
  rw [← a2, ← b2]
  exact List.pairwise_iff_getElem.mp a i j a1 b1 h
theorem fol_asc {n c : Nat} : ∀ {ss L : List Nat} {r r' : Nat}, FolOk n c ss L r → FolOk n c ss L r' → Asc L → r ≤ r' → LexLe (fol n c ss L r).1 (fol n c ss L r').1
  | [], _, _, _, _, _, _, _ => fun z => by cases z
  | s :: ss, L, r, r', ⟨w0, h1, g1, o1⟩, ⟨_, h2, g2, o2⟩, a, h => by
    rw [fol_cons, fol_cons]
    have hd : r / wd n c s ≤ r' / wd n c s := Nat.div_le_div_right h
    by_cases e : r / wd n c s = r' / wd n c s
    · have m1 := Nat.div_add_mod r (wd n c s)
      have m2 := Nat.div_add_mod r' (wd n c s)
      rw [← e] at o2 m2 ⊢
      have hm : r % wd n c s ≤ r' % wd n c s := by omega
      exact LexLe.cons_eq (fol_asc o1 o2 (asc_erase a _) (by omega))
    · exact LexLe.cons_lt (asc_lt a (getD_of h1) (getD_of h2) (by omega))
theorem path_asc {n d c k k' : Nat} (h : Std n d c) (hk : k ≤ k') (hk' : k' < c) : LexLe (path n d c k).1 (path n d c k').1 :=
  fol_asc (path_ok h (by omega)) (path_ok h hk') (asc_range' n 0) hk
end Ef
set_option maxHeartbeats 4000000
namespace Ef
open PySem PySem.Spec PyProof.Rows L2
/-! ### dicts whose keys are tuples, nested at will -/
mutual
/-- the value is this key -/
inductive NkAt (K : PySem.W.Frag) (H : Hp) : NestedKey → V → Prop
  | num (i : Int) : NkAt K H (.num i) (.int i)
  | tup {a : Addr} {xs : List V} {ks : List NestedKey} : SqT K H a xs → NkAll K H ks xs → NkAt K H (.tup ks) (.ref a)
inductive NkAll (K : PySem.W.Frag) (H : Hp) : List NestedKey → List V → Prop
  | nil : NkAll K H [] []
  | cons {k : NestedKey} {v : V} {ks : List NestedKey} {vs : List V} : NkAt K H k v → NkAll K H ks vs → NkAll K H (k :: ks) (v :: vs)
end
mutual
theorem NkAt.mono {K : PySem.W.Frag} {H H' : Hp} (m : ∀ a xs, SqT K H a xs → SqT K H' a xs) : ∀ (k : NestedKey) (v : V), NkAt K H k v → NkAt K H' k v
  | .none, _, h => by cases h
  | .num i, _, h => by cases h; exact .num i
  | .text x, _, h => by cases h
  | .tup ks, _, h => by
    cases h with
    | tup h1 h2 => exact .tup (m _ _ h1) (NkAll.mono m ks _ h2)
theorem NkAll.mono {K : PySem.W.Frag} {H H' : Hp} (m : ∀ a xs, SqT K H a xs → SqT K H' a xs) : ∀ (ks : List NestedKey) (vs : List V), NkAll K H ks vs → NkAll K H' ks vs
  | [], _, h => by cases h; exact .nil
  | k :: ks, _, h => by
    cases h with
    | cons h1 h2 => exact .cons (NkAt.mono m k _ h1) (NkAll.mono m ks _ h2)
end
theorem NkAt.same {K : PySem.W.Frag} {H H' : Hp} {k : NestedKey} {v : V} (s : Same H H') (h : NkAt K H k v) : NkAt K H' k v := NkAt.mono (fun _ _ z => Same.seqT s z) k v h
section
variable {X : Cx} {pins : List (Addr × Obj)} {σ : L2.St} {H : Hp} {s : Shared}
mutual
theorem nk_is (I : Inv X pins σ H s) : ∀ (k : NestedKey) (v : V) (u : Value), NkAt X.K H k v → RelV v u → NestedIs s.heap k u
  | .none, _, _, h, _ => by cases h
  | .num i, _, u, h, r => by
    cases h
    obtain ⟨t, rfl⟩ := (show ∃ t, u = Value.int i t from r)
    exact .int i t
  | .text x, _, _, h, _ => by cases h
  | .tup ks, _, u, h, r => by
    cases h with
    | @tup a xs _ h1 h2 =>
      obtain rfl : u = Value.ref a := r
      obtain ⟨its, rv, ⟨o, ho, hc, n, hd⟩, _⟩ := I.tuple h1
      exact .tup ho hc hd (by simpa using nk_all I ks _ _ h2 rv)
theorem nk_all (I : Inv X pins σ H s) : ∀ (ks : List NestedKey) (vs : List V) (us : List Value), NkAll X.K H ks vs → Vals vs us → NestedAll s.heap ks us
  | [], _, _, h, r => by
    cases h
    cases r
    exact .nil
  | k :: ks, _, _, h, r => by
    cases h with
    | cons h1 h2 =>
      cases r with
      | cons r1 r2 => exact .cons (nk_is I k _ _ h1 r1) (nk_all I ks _ _ h2 r2)
end
end
abbrev DRel : List (NestedKey × Addr × V) → List (NestedKey × Addr × Value) → Prop := PySem.Paired fun p q => p.1 = q.1 ∧ p.2.1 = q.2.1 ∧ RelV p.2.2 q.2.2
abbrev KN (xs : List (NestedKey × Addr × V)) : List (NestedKey × V) := xs.map fun x => (x.1, x.2.2)
theorem DRel.val {xs : List (NestedKey × Addr × V)} {ys : List (NestedKey × Addr × Value)} (r : DRel xs ys) (k : NestedKey) : RelO (valV (KN xs) k) ((atKey ys k).map (·.2)) := by
  induction r with
  | nil => exact True.intro
  | @cons p q ps qs h t ih =>
    obtain ⟨h1, _, h2⟩ := h
    by_cases e : p.1 = k
    · have e' : q.1 = k := h1.symm.trans e
      have b : atKey (q :: qs) k = some q.2 := by simp [atKey, List.find?_cons, e']
      rw [b]
      show RelO (valV ((p.1, p.2.2) :: KN ps) k) _
      rw [valV_pos e]
      exact h2
    · have e' : ¬ q.1 = k := fun z => e (h1.trans z)
      have b : atKey (q :: qs) k = atKey qs k := by simp [atKey, List.find?_cons, e']
      rw [b]
      show RelO (valV ((p.1, p.2.2) :: KN ps) k) _
      rw [valV_neg e]
      exact ih
/-- d[k] = v over the pairs with their keys' places -/
def putN (xs : List (NestedKey × Addr × V)) (k : NestedKey) (b : Addr) (v : V) : List (NestedKey × Addr × V) :=
  if (valV (KN xs) k).isSome = true then xs.map (fun x => if x.1 = k then (x.1, x.2.1, v) else x) else xs ++ [(k, b, v)]
theorem DRel.repl {xs : List (NestedKey × Addr × V)} {ys : List (NestedKey × Addr × Value)} (r : DRel xs ys) (k : NestedKey) {y : V} {u : Value} (ry : RelV y u) :
    DRel (xs.map fun x => if x.1 = k then (x.1, x.2.1, y) else x) (ys.map (putAt k u)) := by
  induction r with
  | nil => exact .nil
  | @cons p q ps qs h t ih =>
    rw [List.map_cons, List.map_cons]
    refine .cons ?_ ih
    obtain ⟨h1, h2, h3⟩ := h
    unfold putAt
    by_cases e : p.1 = k
    · rw [if_pos e, if_pos (h1.symm.trans e)]; exact ⟨h1, h2, ry⟩
    · rw [if_neg e, if_neg (fun z => e (h1.trans z))]; exact ⟨h1, h2, h3⟩
theorem DRel.put {xs : List (NestedKey × Addr × V)} {ys : List (NestedKey × Addr × Value)} (r : DRel xs ys) (k : NestedKey) (b : Addr) {y : V} {u : Value} (ry : RelV y u) :
    DRel (putN xs k b y) (storedH ys k b u) := by
  have e : (valV (KN xs) k).isSome = (atKey ys k).isSome := by
    rw [(r.val k).isSome_eq, Option.isSome_map]
  unfold putN storedH
  rw [e]
  by_cases q : (atKey ys k).isSome = true
  · rw [if_pos q, if_pos q]; exact r.repl k ry
  · rw [if_neg q, if_neg q]; exact Paired.snoc r ⟨rfl, rfl, ry⟩
theorem KN_put (xs : List (NestedKey × Addr × V)) (k : NestedKey) (b : Addr) (v : V) : KN (putN xs k b v) = putK (KN xs) k v := by
  unfold putN putK
  rw [valV_any]
  by_cases q : (valV (KN xs) k).isSome = true
  · rw [if_pos q, if_pos q]
    unfold KN
    rw [List.map_map, List.map_map]
    refine List.map_congr_left fun x _ => ?_
    show ((if x.1 = k then (x.1, x.2.1, v) else x).1, (if x.1 = k then (x.1, x.2.1, v) else x).2.2) = if x.1 = k then (x.1, v) else (x.1, x.2.2)
    by_cases e : x.1 = k
    · rw [if_pos e, if_pos e]
    · rw [if_neg e, if_neg e]
  · rw [if_neg q, if_neg q]
    unfold KN
    rw [List.map_append]
    rfl
theorem putN_mem {xs : List (NestedKey × Addr × V)} {k : NestedKey} {b : Addr} {v : V} {x : NestedKey × Addr × V} (h : x ∈ putN xs k b v) : (∃ y ∈ xs, x.1 = y.1 ∧ x.2.1 = y.2.1) ∨ (x.1 = k ∧ x.2.1 = b) := by
  unfold putN at h
  split at h
  · obtain ⟨y, hy, rfl⟩ := List.mem_map.mp h
    refine .inl ⟨y, hy, ?_⟩
    by_cases e : y.1 = k
    · rw [if_pos e]; exact ⟨rfl, rfl⟩
    · rw [if_neg e]; exact ⟨rfl, rfl⟩
  · rcases List.mem_append.mp h with h | h
    · exact .inl ⟨x, h, rfl, rfl⟩
    · rw [List.mem_singleton.mp h]
      exact .inr ⟨rfl, rfl⟩
/-- a dict at a: its keys, where they stand, its values -/
def DN (P : Program) (w : World) (a : Addr) (xs : List (NestedKey × Addr × V)) : HO := .ext fun h => (a == sysModules) = false ∧ xs.length ≤ sizeLine ∧ ∃ ys : List (NestedKey × Addr × Value), DRel xs ys ∧
  ∃ o es ep, h.get? a = some o ∧ o.ExactDict ∧ o.data = .dict es ep ∧ es.toList = ys.map (entryOfKey (nestedKind P w)) ∧ (ys.map (·.1)).Nodup
theorem dn_ok {P : Program} {w : World} {H : Hp} {h : Heap} {a : Addr} {xs : List (NestedKey × Addr × V)} (h1 : (a == sysModules) = false) (h2 : xs.length ≤ sizeLine) {ys : List (NestedKey × Addr × Value)} (r : DRel xs ys) (d : h.DictOfH (nestedKind P w) a ys) :
    ObjOk P w H h a (DN P w a xs) := by
  obtain ⟨o, es, ep, e1, e2, e3, e4, _, e5⟩ := d
  refine ⟨⟨h1, h2, ys, r, o, es, ep, e1, e2, e3, e4, e5⟩, ⟨o, e1⟩, fun g1 g2 ⟨a1, a2, ys', a3, o', es', ep', b1, b2⟩ st => ⟨a1, a2, ys', a3, o', es', ep', st _ b1, b2⟩⟩
/-- the pairs of the dict at d -/
def DAt (P : Program) (w : World) (K : PySem.W.Frag) (H : Hp) (d : Addr) (kvs : List (NestedKey × V)) : Prop := ∃ xs, H d = some (DN P w d xs) ∧ (∀ x ∈ xs, NkAt K H x.1 (.ref x.2.1) ∧ x.1.depth ≤ 8) ∧ kvs = KN xs
theorem DAt.same {P : Program} {w : World} {K : PySem.W.Frag} {H H' : Hp} {d : Addr} {kvs : List (NestedKey × V)} (s : Same H H') (h : DAt P w K H d kvs) : DAt P w K H' d kvs := by
  obtain ⟨xs, h1, h2, h3⟩ := h
  exact ⟨xs, s _ _ h1, fun x hx => ⟨(h2 x hx).1.same s, (h2 x hx).2⟩, h3⟩
theorem SqT_updE {K : PySem.W.Frag} {H : Hp} {a D : Addr} {xs : List V} {φ : Heap → Prop} {o : HO} (h : SqT K H a xs) (hD : H D = some (.ext φ)) : SqT K (upd H D o) a xs := by
  rcases h with (h | ⟨o, h⟩) | h
  · exact .inl (.inl (by rw [upd_ne (fun c => by rw [c, hD] at h; cases h)]; exact h))
  · exact .inl (.inr ⟨o, by rw [upd_ne (fun c => by rw [c, hD] at h; cases h)]; exact h⟩)
  · exact .inr h
theorem DAt.ext {P : Program} {w : World} {K : PySem.W.Frag} {H : Hp} {d : Addr} {kvs : List (NestedKey × V)} (h : DAt P w K H d kvs) : ∃ φ, H d = some (.ext φ) := by
  obtain ⟨xs, h1, _⟩ := h
  exact ⟨_, h1⟩
/-- a list is changed -/
theorem DAt.updL {P : Program} {w : World} {K : PySem.W.Frag} {H : Hp} {d D : Addr} {kvs : List (NestedKey × V)} {ys : List V} {o : HO} (h : DAt P w K H d kvs) (hD : H D = some (.lst ys)) : DAt P w K (upd H D o) d kvs := by
  obtain ⟨xs, h1, h2, h3⟩ := h
  refine ⟨xs, by rw [upd_ne (fun c => by rw [c, hD] at h1; cases h1)]; exact h1, fun x hx => ⟨NkAt.mono (fun a zs h => ?_) _ _ (h2 x hx).1, (h2 x hx).2⟩, h3⟩
  rcases h with (h | ⟨o, h⟩) | h
  · exact .inl (.inl (by rw [upd_ne (fun c => by rw [c, hD] at h; cases h)]; exact h))
  · exact .inl (.inr ⟨o, by rw [upd_ne (fun c => by rw [c, hD] at h; cases h)]; exact h⟩)
  · exact .inr h
section
variable {X : Cx} {pins : List (Addr × Obj)} {σ : L2.St} {H : Hp} {s : Shared}
theorem dat_of {a : Addr} {xs : List (NestedKey × Addr × V)} (I : Inv X pins σ H s) (e : H a = some (DN X.prog X.w a xs)) (hk : ∀ x ∈ xs, NkAt X.K H x.1 (.ref x.2.1) ∧ x.1.depth ≤ 8) :
    (a == sysModules) = false ∧ xs.length ≤ sizeLine ∧ ∃ ys, DRel xs ys ∧ s.heap.DictOfH (nestedKind X.prog X.w) a ys := by
  obtain ⟨h1, h2, ys, r, o, es, ep, e1, e2, e3, e4, e5⟩ := (I.hok a _ e).1
  refine ⟨h1, h2, ys, r, o, es, ep, e1, e2, e3, e4, ?_, e5⟩
  clear h2 e4 e5 e
  induction r with
  | nil => intro x hx; exact absurd hx List.not_mem_nil
  | @cons p q ps qs h t ih =>
    intro x hx
    rcases List.mem_cons.mp hx with rfl | hx
    · obtain ⟨z1, z2⟩ := hk p List.mem_cons_self
      rw [← h.1, ← h.2.1]
      exact ⟨nk_is I _ _ _ z1 rfl, z2⟩
    · exact ih (fun y hy => hk y (List.mem_cons_of_mem _ hy)) x hx
theorem nroom {A : Around} {P : Program} {w : World} (hu : A.units + 9 < cLine) : (nestedKind P w).room A.in1 := by
  show A.in1.units + 8 < cLine
  rw [Around.in1_units]
  omega
end
/-! the rules -/
def tDNewN (P : Program) (w : World) : TE := fun _ H Q => ∀ p, H p = none → Q (.ref p) (upd H p (DN P w p []))
def rGetDN (P : Program) (w : World) (K : PySem.W.Frag) : V → List V → Hp → VK → Prop := fun x args H Q => ∃ (d b : Addr) (z : V) (kvs : List (NestedKey × V)) (k : NestedKey), x = .ref d ∧ args = [.ref b, z] ∧ DAt P w K H d kvs ∧ NkAt K H k (.ref b) ∧ k.depth ≤ 8 ∧ Q ((valV kvs k).getD z) H
def rSetDN (P : Program) (w : World) (K : PySem.W.Frag) : V → V → V → Hp → (Hp → Prop) → Prop := fun o i v H Q => ∃ (d b : Addr) (kvs : List (NestedKey × V)) (k : NestedKey), o = .ref d ∧ i = .ref b ∧ DAt P w K H d kvs ∧ NkAt K H k (.ref b) ∧ k.depth ≤ 8 ∧ kvs.length < sizeLine ∧
  ∀ u, DAt P w K (upd H d u) d (putK kvs k v) → Q (upd H d u)
def rIxDN (P : Program) (w : World) (K : PySem.W.Frag) : R2 := fun x y H Q => ∃ (d b : Addr) (kvs : List (NestedKey × V)) (k : NestedKey) (v : V), x = .ref d ∧ y = .ref b ∧ DAt P w K H d kvs ∧ NkAt K H k (.ref b) ∧ k.depth ≤ 8 ∧ valV kvs k = some v ∧ Q v H
def tBMN (P : Program) (w : World) (r : V → List V → Hp → VK → Prop) (to : TE) (t : TA) : TE := fun σ H Q => to σ H fun x H1 => (∃ a xs, x = .ref a ∧ H1 a = some (DN P w a xs)) ∧ t σ H1 fun xs H2 => r x xs H2 Q
section
variable {X : Cx} {P : Program} {w : World} {K : PySem.W.Frag} {pos : Pos}
theorem pe_dnewN (hp : X.prog = P := by rfl) (hw : X.w = w := by rfl) : PE X (.Dict [] [] pos) (tDNewN P w) := by
  subst hp hw
  exact ⟨fun pins s σ H Q I h => wpAny_Dict_empty ⟨.ref s.heap.objs.size, _, I.laid (a := s.heap.objs.size) (o := DN X.prog X.w s.heap.objs.size []) (t' := s.toks) (fun _ _ q => Heap.get?_push_of_some _ q) (Nat.le_refl _)
    (dn_ok (beq_eq_false_iff_ne.mpr (Ne.symm (Nat.ne_of_lt I.big))) (Nat.zero_le _) .nil (Heap.DictOfH.new s.heap)), rfl, h _ (I.hok.fresh (Nat.le_refl _))⟩⟩
theorem mt_getDN (K : PySem.W.Frag) (hu : X.A.units + 9 < cLine) (hp : X.prog = P := by rfl) (hw : X.w = w := by rfl) (hk : X.K = K := by rfl) : MtR X "dict.get" (rGetDN P w K) := by
  subst hp hw hk
  intro pins s σ H x args v us Q I rx ra h
  obtain ⟨d, b, z, kvs, k, rfl, rfl, ⟨xs, e, hx, rfl⟩, hb, hd8, q⟩ := h
  obtain rfl : v = Value.ref d := rx
  cases ra with
  | cons r1 r2 =>
    cases r2 with
    | cons r2 r3 =>
      cases r3
      rename_i u1 u2
      obtain rfl : u1 = Value.ref b := r1
      obtain ⟨h1, h2, ys, r, dd⟩ := dat_of I e hx
      refine call_meetsIn PySem.F.slot_dict_get dd.typeIs PySem.F.entry_dict_get (PySem.F.args_dict_get_3 _ _ _) (meetsH_dict_get_default (nestedKind X.prog X.w) d b h1 u2) ⟨nroom hu, k, ys, ⟨nk_is I k _ _ hb rfl, hd8⟩, dd, _, H, I.tok _, (r.val k).getD r2, q⟩
theorem set_dN (K : PySem.W.Frag) (hu : X.A.units + 9 < cLine) (hp : X.prog = P := by rfl) (hw : X.w = w := by rfl) (hk : X.K = K := by rfl) : PSet X (rSetDN P w K) := by
  subst hp hw hk
  intro pins s σ H o i v ov iv u Q I ro ri rv h
  obtain ⟨d, b, kvs, k, rfl, rfl, ⟨xs, e, hx, rfl⟩, hb, hd8, hl, q⟩ := h
  obtain rfl : ov = Value.ref d := ro
  obtain rfl : iv = Value.ref b := ri
  obtain ⟨h1, h2, ys, r, dd⟩ := dat_of I e hx
  have hz : ys.length ≤ sizeLine := by rw [← Paired.length r]; exact h2
  refine wpAny_setItem_heap (hsz := hz) (nroom hu) (show (nestedKind X.prog X.w).is s.heap k b from ⟨nk_is I k _ _ hb rfl, hd8⟩) dd fun h' dd' hs => ?_
  have hl2 : (putN xs k b v).length ≤ sizeLine := by
    have l1 := length_putK (KN xs) k v
    rw [← KN_put xs k b v] at l1
    unfold KN at l1 hl
    rw [List.length_map, List.length_map] at l1
    rw [List.length_map] at hl
    omega
  have he : ∃ q, h'.get? d = some q := let ⟨q, _, _, hq, _⟩ := dd'; ⟨q, hq⟩
  refine ⟨upd H d (DN X.prog X.w d (putN xs k b v)), d_write I (by rw [e]; exact True.intro) hs he (dn_ok h1 hl2 (r.put k b rv) dd'), q _ ⟨putN xs k b v, upd_same, fun x hx2 => ?_, (KN_put xs k b v).symm⟩⟩
  have mo : ∀ a zs, SqT X.K H a zs → SqT X.K (upd H d (DN X.prog X.w d (putN xs k b v))) a zs := fun a zs h => SqT_updE h e
  rcases putN_mem hx2 with ⟨y, hy, e1, e2⟩ | ⟨e1, e2⟩
  · rw [e1, e2]
    exact ⟨NkAt.mono mo _ _ (hx y hy).1, (hx y hy).2⟩
  · rw [e1, e2]
    exact ⟨NkAt.mono mo _ _ hb, hd8⟩
theorem ix_dN (K : PySem.W.Frag) (hu : X.A.units + 9 < cLine) (hp : X.prog = P := by rfl) (hw : X.w = w := by rfl) (hk : X.K = K := by rfl) : IxR X (rIxDN P w K) := by
  subst hp hw hk
  intro value slice pins s σ H x y v u Q I rx ry h hs
  obtain ⟨d, b, kvs, k, z, rfl, rfl, ⟨xs, e, hx, rfl⟩, hb, hd8, hv, q⟩ := h
  obtain rfl : v = Value.ref d := rx
  obtain rfl : u = Value.ref b := ry
  obtain ⟨h1, h2, ys, r, dd⟩ := dat_of I e hx
  obtain ⟨w', hw, rw'⟩ := RelO.some_of (v := z) (o := (atKey ys k).map (·.2)) (by rw [← hv]; exact r.val k)
  obtain ⟨p, hp, hp2⟩ := Option.map_eq_some_iff.mp hw
  refine tail_any (ops := [.ref d, .ref b]) dd.typeIs PySem.F.slot_dict_getitem.lookup ?_ hs
  refine wpAny_getItem_heap (nroom hu) (show (nestedKind X.prog X.w).is s.heap k b from ⟨nk_is I k _ _ hb rfl, hd8⟩) dd hp ?_
  rw [hp2]
  exact ⟨z, H, I.tok _, rw', q⟩
theorem pe_bmN {name : Str} {id : String} {r : V → List V → Hp → VK → Prop} {o e : Expr} {es : List Expr} {to : TE} {t : TA} {apos cpos : Pos} (slot : Slot "dict" name id) (hty : typeOf (.builtin id) = pure (.type "method_descriptor")) (hm : MtR X id r) (ho : PE X o to) (ha : PA X (e :: es) t)
    (hp : X.prog = P := by rfl) (hw : X.w = w := by rfl)
    (hbase : attributeBase o name X.env (eval o X.env) = eval o X.env := by rfl)
    (hfew : ((backTo cpos (starEach (e :: es) X.env)).all (fun x => !x.1) && (backToKw cpos (keywordEach [] X.env)).all (fun x => x.1.isSome)
      && decide ((e :: es).length + ([] : List Keyword).length + (if ([] : List Keyword).isEmpty then 0 else 1) < 30)) = true := by rfl)
    (hline : (apos.endLine == cpos.line) = true := by rfl) (hs : starEach (e :: es) X.env = (false, eval e X.env) :: starEach es X.env := by rfl) (hplain : (backTo cpos (starEach es X.env)).any (·.1) = false := by rfl) :
    PE X (.Call (.Attribute o name apos) (e :: es) [] cpos) (tBMN P w r to t) := by
  subst hp hw
  refine ⟨fun pins s σ H Q I h => ?_⟩
  refine wpAny_Call_method_late hbase hfew hline rfl (thn (ho.run pins s σ H _ I h) fun v s1 ⟨x, H1, I1, r1, ⟨a, xs, ex, ea⟩, q1⟩ => ?_)
  subst ex
  obtain rfl : v = Value.ref a := r1
  obtain ⟨_, _, ys, _, oo, _, _, e1, e2, _⟩ := (I1.hok a _ ea).1
  refine ⟨"dict", id, PySem.F.plainAttrs_dict, slot, hty, ⟨oo, e1, e2.1⟩, fun b q => ?_, ?_⟩
  · cases q
    exact ⟨oo, e1, e2.2.1⟩
  have hA := ha.run cpos pins s1 σ H1 _ I1 q1
  rw [hs] at hA ⊢
  refine Calls.callWith_builtin (by show (false || (backTo cpos (starEach es X.env)).any (·.1)) = false; rw [hplain] <;> rfl) (Calls.evalArgs_plain ?_)
  exact thn hA fun us s2 ⟨vs, H2, I2, r2, q2⟩ => hm pins s2 σ H2 (.ref a) vs (.ref a) us Q I2 rfl r2 q2
end
/-! counting -/
def cntV : Option V → Int
  | some (.int i) => i
  | _ => 0
def tallyN (ks : List NestedKey) : List (NestedKey × V) := ks.foldl (fun acc k => putK acc k (.int (cntV (valV acc k) + 1))) []
theorem tally_snoc (ks : List NestedKey) (k : NestedKey) : tallyN (ks ++ [k]) = putK (tallyN ks) k (.int (cntV (valV (tallyN ks) k) + 1)) := by
  unfold tallyN
  rw [List.foldl_append]
  rfl
theorem tally_val : ∀ (n : Nat) (ks : List NestedKey), ks.length = n → ∀ k, valV (tallyN ks) k = if ks.count k = 0 then none else some (.int (ks.count k : Nat))
  | 0, ks, h, k => by
    rw [List.length_eq_zero_iff.mp h]
    rfl
  | n + 1, ks, h, k => by
    obtain ⟨l, x, rfl⟩ : ∃ l x, ks = l ++ [x] := ⟨ks.dropLast, ks.getLast (fun e => by rw [e] at h; cases h), (List.dropLast_concat_getLast _).symm⟩
    have hl : l.length = n := by
      rw [List.length_append] at h
      have : [x].length = 1 := rfl
      omega
    have ih := tally_val n l hl
    rw [tally_snoc]
    have ec : (l ++ [x]).count k = l.count k + if x = k then 1 else 0 := by
      rw [List.count_append, List.count_singleton]
      by_cases e : x = k
      · rw [if_pos e, if_pos (beq_iff_eq.mpr e)]
      · rw [if_neg e, if_neg (fun z => e (beq_iff_eq.mp z))]
    rw [valV_put]
    by_cases e : x = k
    · subst e
      rw [if_pos rfl, ec, if_pos rfl, if_neg (by omega), ih x]
      by_cases c : l.count x = 0
      · rw [if_pos c, c]
        rfl
      · rw [if_neg c]
        rfl
    · rw [if_neg (fun z => e z.symm), ec, if_neg e, Nat.add_zero]
      exact ih k
end Ef
set_option maxHeartbeats 4000000
namespace Ef
open PySem PySem.Spec PyProof.Rows L2
open PySem.W (dataLe AllAlike Sortable EachIs list_sort_data)
/-! ### such a dict, sorted; its values; its size -/
mutual
theorem nk_dp {K : PySem.W.Frag} {H : Hp} : ∀ (k : NestedKey) (v : V), NkAt K H k v → Dp K H v k.data
  | .none, _, h => by cases h
  | .num i, _, h => by
    cases h
    exact .int i
  | .text x, _, h => by cases h
  | .tup ks, _, h => by
    cases h with
    | tup h1 h2 => exact .tup h1 (nk_dpAll ks _ h2)
theorem nk_dpAll {K : PySem.W.Frag} {H : Hp} : ∀ (ks : List NestedKey) (vs : List V), NkAll K H ks vs → DpAll K H vs (NestedKey.datas ks)
  | [], _, h => by
    cases h
    exact .nil
  | k :: ks, _, h => by
    cases h with
    | cons h1 h2 => exact .cons (nk_dp k _ h1) (nk_dpAll ks _ h2)
end
section
variable {X : Cx} {pins : List (Addr × Obj)} {σ : L2.St} {H : Hp} {s : Shared}
mutual
theorem nk_reads (I : Inv X pins σ H s) : ∀ (k : NestedKey) (v : V) (u : Value), NkAt X.K H k v → RelV v u → Reads s.heap u k.data []
  | .none, _, _, h, _ => by cases h
  | .num i, _, u, h, r => by
    cases h
    obtain ⟨t, rfl⟩ := (show ∃ t, u = Value.int i t from r)
    exact .int i t
  | .text x, _, _, h, _ => by cases h
  | .tup ks, _, u, h, r => by
    cases h with
    | @tup a xs _ h1 h2 =>
      obtain rfl : u = Value.ref a := r
      obtain ⟨its, rv, ⟨o, ho, hc, n, hd⟩, _⟩ := I.tuple h1
      exact .tuple ho hc hd (by simpa using nk_readsAll I ks _ _ h2 rv)
theorem nk_readsAll (I : Inv X pins σ H s) : ∀ (ks : List NestedKey) (vs : List V) (us : List Value), NkAll X.K H ks vs → Vals vs us → ReadsAll s.heap us (NestedKey.datas ks) []
  | [], _, _, h, r => by
    cases h
    cases r
    exact .nil
  | k :: ks, _, _, h, r => by
    cases h with
    | cons h1 h2 =>
      cases r with
      | cons r1 r2 => exact .cons (nk_reads I k _ _ h1 r1) (nk_readsAll I ks _ _ h2 r2)
end
end
def nLe : NestedKey → NestedKey → Bool := dataLe false NestedKey.data
def rSortN (P : Program) (w : World) (K : PySem.W.Frag) : List V → Hp → VK → Prop := fun vs H Q => ∃ (d : Addr) (kvs : List (NestedKey × V)), vs = [V.ref d] ∧ DAt P w K H d kvs ∧ AllAlike ((kvs.map (·.1)).map NestedKey.data) ∧ Sortable ((kvs.map (·.1)).map NestedKey.data) ∧ (∀ k ∈ kvs.map (·.1), k.data.depth ≤ 20) ∧
  ∀ p us, H p = none → PySem.Paired (fun v k => NkAt K H k v) us ((kvs.map (·.1)).mergeSort nLe) → Q (.ref p) (upd H p (.lst us))
theorem drel_keys {acc : List Value} {xs : List (NestedKey × Addr × V)} {ys : List (NestedKey × Addr × Value)} (r : DRel xs ys) : ys.map (fun y => Value.ref y.2.1) = xs.map fun x => Value.ref x.2.1 := by
  induction r with
  | nil => rfl
  | cons h _ ih => rw [List.map_cons, List.map_cons, ih, h.2.1]
theorem each_refs {xs : List (NestedKey × Addr × V)} : EachIs (fun u (b : NestedKey × V) => RelV b.2 u) (xs.map fun x => Value.ref x.2.1) (xs.map fun x => (x.1, V.ref x.2.1)) := by
  induction xs with
  | nil => exact .nil
  | cons x r ih => exact .cons rfl ih
theorem each_read {X : Cx} {pins : List (Addr × Obj)} {σ : L2.St} {H : Hp} {s : Shared} {a : Addr} (I : Inv X pins σ H s) : ∀ {xs : List (NestedKey × Addr × V)}, (∀ x ∈ xs, NkAt X.K H x.1 (.ref x.2.1) ∧ x.1.depth ≤ 8) →
    EachIs (fun v (b : NestedKey × V) => ∃ as, Reads s.heap v b.1.data as ∧ a ∉ as) (xs.map fun x => Value.ref x.2.1) (xs.map fun x => (x.1, V.ref x.2.1))
  | [], _ => .nil
  | x :: xs, h => .cons ⟨[], nk_reads I _ _ _ (h x List.mem_cons_self).1 rfl, List.not_mem_nil⟩ (each_read I fun y hy => h y (List.mem_cons_of_mem _ hy))
theorem each_paired {bs : List (NestedKey × V)} {out : List Value} (e : EachIs (fun u (b : NestedKey × V) => RelV b.2 u) out bs) : Vals (bs.map (·.2)) out := by
  induction e with
  | nil => exact .nil
  | cons h _ ih => exact .cons h ih
theorem nk_paired {K : PySem.W.Frag} {H : Hp} : ∀ {bs : List (NestedKey × V)}, (∀ b ∈ bs, NkAt K H b.1 b.2) → PySem.Paired (fun v k => NkAt K H k v) (bs.map (·.2)) (bs.map (·.1))
  | [], _ => .nil
  | b :: r, h => .cons (h b List.mem_cons_self) (nk_paired fun c hc => h c (List.mem_cons_of_mem _ hc))
theorem keys_acc {P : Program} {w : World} {es : Array DictEntry} {ys : List (NestedKey × Addr × Value)} {acc : Array Value} (e4 : es.toList = ys.map (entryOfKey (nestedKind P w))) (h1 : acc.size = es.size) (h2 : ∀ (i : Nat) (v : Value), acc[i]? = some v → ∃ en : DictEntry, es[i]? = some en ∧ v = en.key) :
    acc.toList = ys.map fun x => Value.ref x.2.1 := by
  have l1 : es.size = ys.length := size_of_entries e4
  have hl : acc.toList.length = ys.length := by rw [Array.length_toList, h1]; exact l1
  apply List.ext_getElem?
  intro j
  rw [List.getElem?_map]
  cases hj : acc.toList[j]? with
  | none =>
    have h1 := List.getElem?_eq_none_iff.mp hj
    rw [List.getElem?_eq_none (by omega)]
    all_goals rfl
  | some v =>
    obtain ⟨en, hen, hv⟩ := h2 j v (by rw [← Array.getElem?_toList]; exact hj)
    have qe := entry_at e4 j
    rw [hen] at qe
    cases hb : ys[j]? with
    | none =>
      rw [hb] at qe
      exact nomatch (show some en = none from qe)
    | some b =>
      rw [hb] at qe
      have e2 : en = entryOfKey (nestedKind P w) b := Option.some.inj qe
      rw [hv, e2]
      all_goals rfl
section
variable {X : Cx} {P : Program} {w : World} {K : PySem.W.Frag}
theorem cr_sortN (K : PySem.W.Frag) (hc : X.calm = true) (hu : X.A.units + 64 < cLine) (hp : X.prog = P := by rfl) (hw : X.w = w := by rfl) (hk : X.K = K := by rfl) : CallR X (.builtin "sorted") (rSortN P w K) := by
  subst hp hw hk
  intro pins s σ H vs us Q I r hq
  obtain ⟨d, kvs, rfl, ⟨xs, e, hx, rfl⟩, hal, hso, hdp, q⟩ := hq
  obtain ⟨u, rfl, ru⟩ := vals1 r
  obtain rfl : u = Value.ref d := ru
  obtain ⟨h1, h2, ys, rel, o, es, ep, e1, e2, e3, e4, e5⟩ := (I.hok d _ e).1
  have l1 : es.size = ys.length := size_of_entries e4
  have l2 : xs.length = ys.length := PySem.Paired.length rel
  have ek : (KN xs).map (·.1) = (xs.map fun x => (x.1, V.ref x.2.1)).map (·.1) := by
    rw [List.map_map, List.map_map]
    rfl
  rw [ek] at hal hso hdp q
  refine Calls.call_function_entry PyProof.Rows.kind_sorted PyProof.Rows.plain_sorted PyProof.Rows.entry_sorted (PyProof.Rows.args_sorted1 _) ?_
  unfold Builtin.«sorted»
  refine wpAny_bind (m := checkCount "sorted" 1 1 _) (wpAny_pure ?_)
  refine wpAny_bind (PySem.W.kdu_collect (A := X.A.in1) (kdl_raw h1 e2 e3) (I.ok.hd hc) e1 (by omega) fun h' tk acc hk' hacc => ?_)
  have ea := (keys_acc e4 hacc.1 hacc.2).trans (drel_keys (acc := []) rel)
  have I1 : Inv X pins σ H { s with heap := h', toks := tk } := I.kept hk'
  rw [ea]
  refine wpAny_bind (wpAny_newList ?_ (by rw [List.length_map]; omega))
  have hoL : (h'.push (seqObj "list" (xs.map fun x => Value.ref x.2.1).toArray 0)).get? h'.objs.size = some (seqObj "list" (xs.map fun x => Value.ref x.2.1).toArray 0) := Heap.get?_push_size _ rfl
  show wpAny _ _ _ _ _ { s with heap := h'.push (seqObj "list" (xs.map fun x => Value.ref x.2.1).toArray 0), toks := tk }
  have I2 : Inv X pins σ H { s with heap := h'.push (seqObj "list" (xs.map fun x => Value.ref x.2.1).toArray 0), toks := tk } := I1.kept (t' := tk) fun b u e => Heap.get?_push_of_some _ e
  refine wpAny_bind (wpAny_holding (list_sort_data (s := { s with heap := h'.push (seqObj "list" (xs.map fun x => Value.ref x.2.1).toArray 0), toks := tk }) (β := NestedKey × V) (bs := xs.map fun x => (x.1, V.ref x.2.1)) (enc := fun b : NestedKey × V => b.1.data) (R := fun u (b : NestedKey × V) => RelV b.2 u) hoL each_refs (each_read I2 hx)
    (by rw [List.map_map] at hal; exact hal) (by rw [List.map_map] at hso; exact hso) (by rw [List.length_map]; omega) (fun b hb => ?_) fun out hout eo => ?_))
  · have hb2 : b.1 ∈ (xs.map fun x => (x.1, V.ref x.2.1)).map (·.1) := List.mem_map.mpr ⟨b, hb, rfl⟩
    have := hdp _ hb2
    show X.A.in1.units + 1 + _ < _
    rw [Around.in1_units]
    omega
  · obtain ⟨e', he'⟩ := PyProof.Rows.sortedHeap_at (vs := xs.map fun x => Value.ref x.2.1) (out := out.toArray) hoL
    have hv := each_paired eo
    have hlen : (((xs.map fun x => (x.1, V.ref x.2.1)).mergeSort (dataLe false fun b : NestedKey × V => b.1.data)).map (·.2)).length ≤ sizeLine := by
      rw [List.length_map, List.length_mergeSort, List.length_map]
      omega
    refine wpAny_pure ⟨_, rfl, .ref h'.objs.size, upd H h'.objs.size (.lst (((xs.map fun x => (x.1, V.ref x.2.1)).mergeSort (dataLe false fun b : NestedKey × V => b.1.data)).map (·.2))), I1.laid (t' := tk) (fun b u e => ?_) (Nat.le_refl _)
      (show ObjOk X.prog X.w _ _ _ (.lst _) from ⟨hlen, out, e', hv, he'⟩), rfl, q _ _ (I1.hok.fresh (Nat.le_refl _)) ?_⟩
    · have hb : b < h'.objs.size := Heap.lt_size e
      rw [PyProof.Rows.sortedHeap_old (Nat.ne_of_lt hb) (by rw [size_push']; exact Nat.lt_succ_of_lt hb)]
      exact Heap.get?_push_of_some _ e
    · have em : ((xs.map fun x => (x.1, V.ref x.2.1)).mergeSort (dataLe false fun b : NestedKey × V => b.1.data)).map (·.1) = ((xs.map fun x => (x.1, V.ref x.2.1)).map (·.1)).mergeSort nLe := List.map_mergeSort fun a _ b _ => rfl
      rw [← em]
      have all : ∀ b ∈ (xs.map fun x => (x.1, V.ref x.2.1)).mergeSort (dataLe false fun b : NestedKey × V => b.1.data), NkAt X.K H b.1 b.2 := fun b hb => by
        obtain ⟨x, hx2, rfl⟩ := List.mem_map.mp ((List.mergeSort_perm _ _).mem_iff.mp hb)
        exact (hx x hx2).1
      exact nk_paired all
/-- len(d) -/
def rLenN (P : Program) (w : World) (K : PySem.W.Frag) : List V → Hp → VK → Prop := fun vs H Q => ∃ (d : Addr) (kvs : List (NestedKey × V)), vs = [V.ref d] ∧ DAt P w K H d kvs ∧ Q (.int (kvs.length : Nat)) H
theorem call_lenN (K : PySem.W.Frag) (hp : X.prog = P := by rfl) (hw : X.w = w := by rfl) (hk : X.K = K := by rfl) : CallR X (.builtin "len") (rLenN P w K) := by
  subst hp hw hk
  intro pins s σ H vs us Q I r hq
  obtain ⟨d, kvs, rfl, ⟨xs, e, hx, rfl⟩, q⟩ := hq
  obtain ⟨u, rfl, ru⟩ := vals1 r
  obtain rfl : u = Value.ref d := ru
  obtain ⟨h1, h2, ys, rel, dd⟩ := dat_of I e hx
  have l2 : xs.length = ys.length := PySem.Paired.length rel
  refine call_len_dictH h1 dd (by rw [sizeLine_eq] at h2; omega) ?_
  refine ⟨.int ((KN xs).length : Nat), H, I.tok _, ⟨s.toks + 1, ?_⟩, q⟩
  unfold KN
  rw [List.length_map, l2]
/-- d.values() -/
def tValsN (P : Program) (w : World) (to : TE) : TE := fun σ H Q => to σ H fun x H1 => ∃ a xs, x = .ref a ∧ H1 a = some (DN P w a xs) ∧ ∀ p, H1 p = none → Q (.ref p) (upd H1 p (viewO "dict_values" p a))
theorem pe_valsN {o : Expr} {to : TE} {apos cpos : Pos} (ho : PE X o to) (hp : X.prog = P := by rfl) (hw : X.w = w := by rfl) (hbase : attributeBase o "values" X.env (eval o X.env) = eval o X.env := by rfl) (hline : (apos.endLine == cpos.line) = true := by rfl) :
    PE X (.Call (.Attribute o "values" apos) [] [] cpos) (tValsN P w to) := by
  subst hp hw
  refine ⟨fun pins s σ H Q I h => ?_⟩
  refine wpAny_Call_method0_late hbase hline (thn (ho.run pins s σ H _ I h) fun v s1 ⟨x, H1, I1, r1, a, xs, ex, ea, q1⟩ => ?_)
  subst ex
  obtain rfl : v = Value.ref a := r1
  obtain ⟨h1, _, ys, _, oo, es, ep, e1, e2, e3, _⟩ := (I1.hok a _ ea).1
  refine ⟨"dict", "dict.values", PySem.F.plainAttrs_dict, PySem.F.slot_dict_values, PySem.F.type_dict_values, ⟨oo, e1, e2.1⟩, fun b q => ?_, Calls.callWith_builtin rfl (PySem.evalArgs_none ?_)⟩
  · cases q
    exact ⟨oo, e1, e2.2.1⟩
  refine call_meetsIn PySem.F.slot_dict_values ⟨oo, e1, e2.1⟩ PySem.F.entry_dict_values (PySem.F.args_dict_values_1 _) (meets_dict_values_raw a h1) ⟨⟨es, ep, oo, e1, e2, e3⟩, ?_⟩
  exact ⟨.ref s1.heap.objs.size, _, I1.laid (t' := s1.toks) (fun b o q => Heap.get?_push_of_some _ q) (Nat.le_refl _) (viewO_ok (Heap.get?_push_size _ rfl)), rfl, q1 _ (I1.hok.fresh (Nat.le_refl _))⟩
/-- the values as entries -/
theorem vals_ent {es : Array DictEntry} {ys : List (NestedKey × Addr × Value)} {xs : List (NestedKey × Addr × V)} {ns : List Int} (e4 : es.toList = ys.map (entryOfKey (nestedKind P w))) (rel : DRel xs ys) (hns : (KN xs).map (·.2) = ns.map V.int) : es.size = ns.length ∧ ∀ (i : Nat) (e : DictEntry), es[i]? = some e → ∃ t, e.val = .int (ns.getD i 0) t := by
  have l1 : es.size = ys.length := size_of_entries e4
  have l2 : xs.length = ys.length := PySem.Paired.length rel
  have l3 : xs.length = ns.length := by
    have e := congrArg List.length hns
    rw [List.length_map, List.length_map, List.length_map] at e
    exact e
  refine ⟨by omega, fun i e he => ?_⟩
  have qe := entry_at e4 i
  rw [he] at qe
  cases hb : ys[i]? with
  | none =>
    rw [hb] at qe
    exact nomatch (show some e = none from qe)
  | some b =>
    rw [hb] at qe
    have e2 : e = entryOfKey (nestedKind P w) b := Option.some.inj qe
    have hi : i < ys.length := (List.getElem?_eq_some_iff.mp hb).1
    have hx : xs[i]? = some xs[i] := List.getElem?_eq_getElem (by omega)
    rcases paired_at rel i with ⟨z, _⟩ | ⟨x, y, z1, z2, z3⟩
    · rw [hx] at z
      cases z
    · rw [hb] at z2
      obtain rfl := Option.some.inj z2
      have z4 : ((KN xs).map (·.2))[i]? = some x.2.2 := by
        unfold KN
        rw [List.map_map, List.getElem?_map, z1]
        rfl
      rw [hns, List.getElem?_map] at z4
      obtain ⟨j, hj, ej⟩ := Option.map_eq_some_iff.mp z4
      have r3 := z3.2.2
      rw [← ej] at r3
      obtain ⟨t, et⟩ := (show ∃ t, b.2.2 = Value.int j t from r3)
      refine ⟨t, ?_⟩
      rw [e2]
      show b.2.2 = _
      rw [et, List.getD_eq_getElem?_getD, hj]
      rfl
def rMaxN (P : Program) (w : World) (K : PySem.W.Frag) : List V → Hp → VK → Prop := fun xs H Q => ∃ (p a : Addr) (kvs : List (NestedKey × V)) (ns : List Int), xs = [.ref p] ∧ H p = some (viewO "dict_values" p a) ∧ DAt P w K H a kvs ∧ kvs.map (·.2) = ns.map V.int ∧ 0 < ns.length ∧ ∀ m, m ∈ ns → (∀ y, y ∈ ns → y ≤ m) → Q (.int m) H
def rMinN (P : Program) (w : World) (K : PySem.W.Frag) : List V → Hp → VK → Prop := fun xs H Q => ∃ (p a : Addr) (kvs : List (NestedKey × V)) (ns : List Int), xs = [.ref p] ∧ H p = some (viewO "dict_values" p a) ∧ DAt P w K H a kvs ∧ kvs.map (·.2) = ns.map V.int ∧ 0 < ns.length ∧ ∀ m, m ∈ ns → (∀ y, y ∈ ns → m ≤ y) → Q (.int m) H
def rSumN (P : Program) (w : World) (K : PySem.W.Frag) : List V → Hp → VK → Prop := fun xs H Q => ∃ (p a : Addr) (kvs : List (NestedKey × V)) (ns : List Int), xs = [.ref p] ∧ H p = some (viewO "dict_values" p a) ∧ DAt P w K H a kvs ∧ kvs.map (·.2) = ns.map V.int ∧ Q (.int ns.sum) H
theorem cr_maxN (K : PySem.W.Frag) (hc : X.calm = true) (hp : X.prog = P := by rfl) (hw : X.w = w := by rfl) (hk : X.K = K := by rfl) : CallR X (.builtin "max") (rMaxN P w K) := by
  subst hp hw hk
  intro pins s σ H xs us Q I rx h
  obtain ⟨p, a, kvs, ns, rfl, hpp, ⟨xs, e, hx, rfl⟩, hns, hne, q⟩ := h
  obtain ⟨u, rfl, ru⟩ := vals1 rx
  obtain rfl : u = Value.ref p := ru
  obtain ⟨h1, h2, ys, rel, o, es, ep, e1, e2, e3, e4, e5⟩ := (I.hok a _ e).1
  obtain ⟨hsz, hP⟩ := vals_ent e4 rel hns
  have hv : s.heap.get? p = some (DSub.viewOb "dict_values" a) := (show ObjOk X.prog X.w H s.heap p (viewO "dict_values" p a) from I.hok p _ hpp).1
  refine call_max_walk ?_
  refine DSub.iter_vals hv e1 e3 ?_
  have ha : a < s.heap.objs.size := Heap.lt_size e1
  refine ⟨s.heap.objs.size, [s.heap.objs.size, a], [s.heap.objs.size], es.size, fun i v => ∃ t, v = .int (ns.getD i 0) t, _, fun i j => decide (ns.getD i 0 > ns.getD j 0), rfl, DSub.walksVal (a := a) (show X.A.in1.handled = none from I.ok.hd hc) (Nat.ne_of_lt ha) e3 hP, ⟨Heap.get?_push_size _ rfl, Heap.get?_push_of_some _ e1⟩, fun b hb => ?_, by omega, CmpOf.ints_gt (fun i => ns.getD i 0) (fun i v z => z), fun v h' tk hv' hk => ?_⟩
  · show b < (s.heap.push _).objs.size
    rw [size_push']
    rcases List.mem_cons.mp hb with z | z
    · rw [z]
      exact Nat.lt_succ_self _
    · rw [List.mem_singleton.mp z]
      exact Nat.lt_succ_of_lt ha
  · obtain ⟨t, rfl⟩ := hv'
    obtain ⟨m1', m2'⟩ := argBest_gt (fun i => ns.getD i 0) (es.size - 1)
    have m1 : argBest (fun i j => decide (ns.getD i 0 > ns.getD j 0)) (es.size - 1) ≤ es.size - 1 := m1'
    have m2 : ∀ j, j ≤ es.size - 1 → ns.getD j 0 ≤ ns.getD (argBest (fun i j => decide (ns.getD i 0 > ns.getD j 0)) (es.size - 1)) 0 := m2'
    have hk2 : ∀ b o, s.heap.get? b = some o → h'.get? b = some o := fun b o e => hk b o (fun z => by rw [List.mem_singleton.mp z] at e; exact absurd (Heap.lt_size e) (Nat.lt_irrefl _)) (Heap.get?_push_of_some _ e)
    refine ⟨.int _, H, I.kept (t' := tk) hk2, ⟨t, rfl⟩, q _ (PySem.getD_mem (by omega)) fun y hy => ?_⟩
    obtain ⟨j, hj, e⟩ := List.mem_iff_getElem.mp hy
    have z := m2 j (by omega)
    have e3 : ns.getD j 0 = y := by rw [List.getD_eq_getElem?_getD, List.getElem?_eq_getElem hj, ← e] <;> rfl
    rw [e3] at z
    exact z
theorem cr_minN (K : PySem.W.Frag) (hc : X.calm = true) (hp : X.prog = P := by rfl) (hw : X.w = w := by rfl) (hk : X.K = K := by rfl) : CallR X (.builtin "min") (rMinN P w K) := by
  subst hp hw hk
  intro pins s σ H xs us Q I rx h
  obtain ⟨p, a, kvs, ns, rfl, hpp, ⟨xs, e, hx, rfl⟩, hns, hne, q⟩ := h
  obtain ⟨u, rfl, ru⟩ := vals1 rx
  obtain rfl : u = Value.ref p := ru
  obtain ⟨h1, h2, ys, rel, o, es, ep, e1, e2, e3, e4, e5⟩ := (I.hok a _ e).1
  obtain ⟨hsz, hP⟩ := vals_ent e4 rel hns
  have hv : s.heap.get? p = some (DSub.viewOb "dict_values" a) := (show ObjOk X.prog X.w H s.heap p (viewO "dict_values" p a) from I.hok p _ hpp).1
  refine call_min_walk ?_
  refine DSub.iter_vals hv e1 e3 ?_
  have ha : a < s.heap.objs.size := Heap.lt_size e1
  refine ⟨s.heap.objs.size, [s.heap.objs.size, a], [s.heap.objs.size], es.size, fun i v => ∃ t, v = .int (ns.getD i 0) t, _, fun i j => decide (ns.getD i 0 < ns.getD j 0), rfl, DSub.walksVal (a := a) (show X.A.in1.handled = none from I.ok.hd hc) (Nat.ne_of_lt ha) e3 hP, ⟨Heap.get?_push_size _ rfl, Heap.get?_push_of_some _ e1⟩, fun b hb => ?_, by omega, CmpOf.ints_lt (fun i => ns.getD i 0) (fun i v z => z), fun v h' tk hv' hk => ?_⟩
  · show b < (s.heap.push _).objs.size
    rw [size_push']
    rcases List.mem_cons.mp hb with z | z
    · rw [z]
      exact Nat.lt_succ_self _
    · rw [List.mem_singleton.mp z]
      exact Nat.lt_succ_of_lt ha
  · obtain ⟨t, rfl⟩ := hv'
    obtain ⟨m1', m2'⟩ := argBest_lt (fun i => ns.getD i 0) (es.size - 1)
    have m1 : argBest (fun i j => decide (ns.getD i 0 < ns.getD j 0)) (es.size - 1) ≤ es.size - 1 := m1'
    have m2 : ∀ j, j ≤ es.size - 1 → ns.getD (argBest (fun i j => decide (ns.getD i 0 < ns.getD j 0)) (es.size - 1)) 0 ≤ ns.getD j 0 := m2'
    have hk2 : ∀ b o, s.heap.get? b = some o → h'.get? b = some o := fun b o e => hk b o (fun z => by rw [List.mem_singleton.mp z] at e; exact absurd (Heap.lt_size e) (Nat.lt_irrefl _)) (Heap.get?_push_of_some _ e)
    refine ⟨.int _, H, I.kept (t' := tk) hk2, ⟨t, rfl⟩, q _ (PySem.getD_mem (by omega)) fun y hy => ?_⟩
    obtain ⟨j, hj, e⟩ := List.mem_iff_getElem.mp hy
    have z := m2 j (by omega)
    have e3 : ns.getD j 0 = y := by rw [List.getD_eq_getElem?_getD, List.getElem?_eq_getElem hj, ← e] <;> rfl
    rw [e3] at z
    exact z
theorem pre_sum : ∀ (ns : List Int), preSum (fun i => ns.getD i 0) ns.length = ns.sum
  | [] => rfl
  | n :: ns => by
    show preSum (fun i => (n :: ns).getD i 0) (ns.length + 1) = n + ns.sum
    rw [PySem.W.kdu_shift, ← pre_sum ns]
    rfl
theorem cr_sumN (K : PySem.W.Frag) (hc : X.calm = true) (hp : X.prog = P := by rfl) (hw : X.w = w := by rfl) (hk : X.K = K := by rfl) : CallR X (.builtin "sum") (rSumN P w K) := by
  subst hp hw hk
  intro pins s σ H xs us Q I rx h
  obtain ⟨p, a, kvs, ns, rfl, hpp, ⟨xs, e, hx, rfl⟩, hns, q⟩ := h
  obtain ⟨u, rfl, ru⟩ := vals1 rx
  obtain rfl : u = Value.ref p := ru
  obtain ⟨h1, h2, ys, rel, o, es, ep, e1, e2, e3, e4, e5⟩ := (I.hok a _ e).1
  obtain ⟨hsz, hP⟩ := vals_ent e4 rel hns
  have hv : s.heap.get? p = some (DSub.viewOb "dict_values" a) := (show ObjOk X.prog X.w H s.heap p (viewO "dict_values" p a) from I.hok p _ hpp).1
  refine call_sum_walkAnyS ?_
  refine DSub.iter_vals hv e1 e3 ?_
  have ha : a < s.heap.objs.size := Heap.lt_size e1
  refine ⟨s.heap.objs.size, [s.heap.objs.size, a], [s.heap.objs.size], _, es.size, fun i v => ∃ t, v = .int (ns.getD i 0) t, _, fun i => ns.getD i 0, rfl, (DSub.walksVal (a := a) (show X.A.in1.handled = none from I.ok.hd hc) (Nat.ne_of_lt ha) e3 hP).toS, ⟨Heap.get?_push_size _ rfl, Heap.get?_push_of_some _ e1⟩, fun b hb => ?_, fun i v z => z, fun s' t' hm => ?_⟩
  · show b < (s.heap.push _).objs.size
    rw [size_push']
    rcases List.mem_cons.mp hb with z | z
    · rw [z]
      exact Nat.lt_succ_self _
    · rw [List.mem_singleton.mp z]
      exact Nat.lt_succ_of_lt ha
  · have hk : ∀ b o, s.heap.get? b = some o → s'.heap.get? b = some o := fun b o e =>
      hm.heap b o (fun hI => absurd (Heap.lt_size e) (by rw [List.mem_singleton.mp hI]; exact Nat.lt_irrefl _)) (Heap.get?_push_of_some _ e)
    rw [Moved.eq_with hm]
    refine ⟨.int ns.sum, H, I.kept (h' := s'.heap) (t' := s'.toks) hk, ⟨t', ?_⟩, q⟩
    rw [hsz, pre_sum]
end
end Ef
set_option maxHeartbeats 4000000
namespace Ef
open PySem PySem.Spec PyProof.Rows L2
/-! ### set - set, of ints -/
section
variable {P : Program} {w : World} {A : Around} {E : Value → Shared → Prop} {s : Shared}
/-- the flags of a fresh set's table, turned -/
theorem setR_flags {h : Heap} {r : Addr} {o : Obj} {es : Array (Int × Value)} {ep : Nat} {t : SetTable} {S : Int → Bool} {n : Nat} {l p : Bool} (ho : h.get? r = some o) (hex : o.ExactSet) (hd : o.data = .set es ep t) (g : ∀ e ∈ es.toList, GoodE e) (nd : (es.toList.map keyOf).Nodup) (hm : ∀ k, S k = true ↔ k ∈ es.toList.map keyOf)
    (hb : es.size < scanBound) (hf : t.fits es.size = true) (hn : es.size = n) (hr : Ris t.place.toList) (hl : w.params.followText "set-order" = true ∨ l = true) :
    SetR w (h.update r (Obj.putSet es { t with led := l, plain := p })) r S n :=
  ⟨_, es, _, _, store_at ho hd, hex, rfl, g, nd, hm, hb, hf, hn, hr, hl⟩
theorem quiet_at : ∀ (l : List Addr) {Q : Bool → Shared → Prop}, (∀ a ∈ l, ∃ S n, SetR w s.heap a S n) → Q true s → wpAny (model P w) A (setsQuiet l) Q E s := by
  intro l Q hl q
  unfold setsQuiet
  refine wpAny_bind (wpAny_forIn_list _ (fun rest (b : Option Bool × Unit) s' => b.1 = none ∧ s' = s ∧ ∀ a ∈ rest, ∃ S n, SetR w s.heap a S n) _ ?_ ?_ l _ ⟨rfl, rfl, hl⟩)
  · rintro a rest ⟨b1, b2⟩ s1 ⟨hb, rfl, hl⟩
    obtain ⟨S, n, o, es, ep, t, ho, hex, hd, g, nd, hm, hsb, hf, hn, hr, hled⟩ := hl a List.mem_cons_self
    refine wpAny_bind (wpAny_setEntries_of ho hd hf ?_)
    refine wpAny_bind (MeetsSeq2.wpAny_forIn_array _ (fun rest (b : Option Bool × Unit) s' => b.1 = none ∧ s' = s1 ∧ ∀ e ∈ rest, GoodE e) _ ?_ ?_ es _ ⟨rfl, rfl, g⟩)
    · rintro ⟨h, x⟩ rest ⟨b1, b2⟩ s2 ⟨hb, rfl, g⟩
      obtain ⟨k, tk, rfl, e2⟩ := g _ List.mem_cons_self
      exact wpAny_pure ⟨rfl, rfl, fun e he => g e (List.mem_cons_of_mem _ he)⟩
    · rintro ⟨b1, b2⟩ s2 ⟨hb, rfl, _⟩
      obtain rfl : b1 = none := hb
      exact wpAny_pure ⟨rfl, rfl, fun a ha => hl a (List.mem_cons_of_mem _ ha)⟩
  · rintro ⟨b1, b2⟩ s1 ⟨hb, rfl, _⟩
    obtain rfl : b1 = none := hb
    exact wpAny_pure q
/-- all elements of a set, in an order -/
theorem setWalk_at {a : Addr} {o : Obj} {es : Array (Int × Value)} {ep : Nat} {t : SetTable} {Q : Array (Int × Value) → Shared → Prop} (ho : s.heap.get? a = some o) (hd : o.data = .set es ep t) (hf : t.fits es.size = true) (hl : w.params.followText "set-order" = true ∨ t.led = true)
    (h : ∀ (es' : Array (Int × Value)) d, es'.toList.Perm es.toList → Q es' { s with drawn := d }) : wpAny (model P w) A (setWalk a) Q E s := by
  unfold setWalk
  refine wpAny_bind (wpAny_setState_of ho hd hf ?_)
  dsimp only
  refine wpAny_bind (wpAny_byText ?_)
  cases hb : w.params.followText "set-order" with
  | true =>
    refine wp_if_pos rfl ?_
    exact wpAny_bind (wpAny_askSetting (wpAny_pure (h _ s.drawn (pick_perm _ _))))
  | false =>
    refine wp_if_neg (by simp) ?_
    try refine wpAny_bind (wpAny_pure ?_)
    have hl2 : t.led = true := hl.resolve_left (by rw [hb]; exact Bool.false_ne_true)
    by_cases hdr : (!t.plain && decide (es.size > 1)) = true
    · refine wp_if_pos hdr ?_
      exact wpAny_bind (drawOrder_at _ _ _ _ (Nat.le_of_eq Array.length_toList) fun ys d hp => wpAny_pure (h _ d (by simpa using hp)))
    · refine wp_if_neg hdr ?_
      try refine wpAny_bind (wpAny_pure ?_)
      refine wpAny_bind (wpAny_of_eq (a := ()) ?_ ?_)
      · show (if (!t.led && decide (es.size > 1)) = true then unsupported "set:maker-not-led" else pure ()) = pure ()
        rw [hl2]
        rfl
      · exact wpAny_pure (h es s.drawn (List.Perm.refl _))
theorem walkU_at {a q r : Addr} {o : Obj} {es : Array (Int × Value)} {ep : Nat} {t : SetTable} {S3 : Int → Bool} {n3 : Nat} {Q : Array (Int × Value) → Shared → Prop} (ho : s.heap.get? a = some o) (hd : o.data = .set es ep t) (hf : t.fits es.size = true) (hl : w.params.followText "set-order" = true ∨ t.led = true)
    (hq : ∀ b ∈ [a, q, r], ∃ S n, SetR w s.heap b S n) (R3 : SetR w s.heap r S3 n3)
    (h : ∀ (es' : Array (Int × Value)) h' d, es'.toList.Perm es.toList → Heap.SameBut r s.heap h' → SetR w h' r S3 n3 → Q es' { s with heap := h', drawn := d }) : wpAny (model P w) A (setWalkUnseen a [q, r] (some r)) Q E s := by
  unfold setWalkUnseen
  have walk : wpAny (model P w) A (setWalk a) Q E s := setWalk_at ho hd hf hl fun es' d hp => h es' s.heap d hp (Heap.SameBut.refl r s.heap) R3
  refine wpAny_bind (wpAny_setState_of ho hd hf ?_)
  dsimp only
  refine wpAny_bind (wpAny_byText ?_)
  by_cases hc : (w.params.followText "set-order" || (t.led && t.plain) || decide (es.size ≤ 1)) = true
  · refine wp_if_pos hc ?_
    first | exact walk | exact wpAny_bind walk
  · refine wp_if_neg hc ?_
    try refine wpAny_bind (wpAny_pure ?_)
    have hbt : w.params.followText "set-order" = false := by
      cases hb : w.params.followText "set-order" with
      | false => rfl
      | true => rw [hb] at hc; exact absurd rfl hc
    have hl2 : t.led = true := hl.resolve_left (by rw [hbt]; exact Bool.false_ne_true)
    refine wpAny_bind (quiet_at _ hq ?_)
    refine wp_if_neg (by simp) ?_
    try refine wpAny_bind (wpAny_pure ?_)
    refine wpAny_bind (wpAny_rule ?_)
    obtain ⟨o3, es3, ep3, t3, ho3, hex3, hd3, g3, nd3, hm3, hb3, hf3, hn3, hr3, hl3⟩ := R3
    refine wpAny_bind (wpAny_setState_of ho3 hd3 hf3 ?_)
    dsimp only
    by_cases hw : ((t3.led && !t.led) || (t3.plain && !t.plain)) = true
    · refine wp_if_pos hw ?_
      refine wpAny_bind (wpAny_storeSet_of ho3 hd3 ?_ (fits_of_scanBound hb3))
      refine wpAny_pure (h es _ s.drawn (List.Perm.refl _) (Heap.SameBut.update ..) ?_)
      refine setR_flags ho3 hex3 hd3 g3 nd3 hm3 hb3 hf3 hn3 hr3 (hl3.imp id fun z => ?_)
      rw [z, hl2]
      rfl
    · refine wp_if_neg hw ?_
      try refine wpAny_bind (wpAny_pure ?_)
      exact wpAny_pure (h es s.heap s.drawn (List.Perm.refl _) (Heap.SameBut.refl ..) ⟨o3, es3, ep3, t3, ho3, hex3, hd3, g3, nd3, hm3, hb3, hf3, hn3, hr3, hl3⟩)
theorem setR_type {h : Heap} {a : Addr} {S : Int → Bool} {n : Nat} (R : SetR w h a S n) (g : Array GenState) (d : Drawn) (tk : Nat) (os : OsState) : Shared.TypeIs { heap := h, gens := g, drawn := d, toks := tk, os := os } (.ref a) "set" := by
  obtain ⟨o, es, ep, t, ho, hex, _⟩ := R
  exact ⟨o, ho, hex.1⟩
theorem anySet_at {a : Addr} {S : Int → Bool} {n : Nat} {Q : Bool → Shared → Prop} (R : SetR w s.heap a S n) (h : Q true s) : wpAny (model P w) A (Builtin.Frozenset.isAnySet (.ref a)) Q E s := by
  unfold Builtin.Frozenset.isAnySet
  refine wpAny_bind (wpAny_isInstance (setR_type R _ _ _ _) sub_set_self ?_)
  exact wpAny_pure h
theorem baseOf_at {a : Addr} {S : Int → Bool} {n : Nat} {Q : Value → Shared → Prop} (R : SetR w s.heap a S n) (h : Q (.type "set") s) : wpAny (model P w) A (Builtin.Frozenset.baseOf a) Q E s := by
  unfold Builtin.Frozenset.baseOf
  refine wpAny_bind (wpAny_isInstance (setR_type R _ _ _ _) sub_set_self ?_)
  exact wpAny_pure h
theorem sizeOf_at {a : Addr} {S : Int → Bool} {n : Nat} {Q : Nat → Shared → Prop} (R : SetR w s.heap a S n) (h : Q n s) : wpAny (model P w) A (Builtin.Frozenset.sizeOf a) Q E s := by
  obtain ⟨o, es, ep, t, ho, hex, hd, g, nd, hm, hb, hf, hn, hr, hl⟩ := R
  unfold Builtin.Frozenset.sizeOf
  refine wpAny_bind (wpAny_setEntries_of ho hd hf (wpAny_pure ?_))
  rw [hn]
  exact h
theorem newSet_at {Q : Value → Shared → Prop} (h : ∀ h', (∀ b u, s.heap.get? b = some u → h'.get? b = some u) → h'.objs.size = s.heap.objs.size + 1 → SetR w h' s.heap.objs.size (fun _ => false) 0 → Q (.ref s.heap.objs.size) { s with heap := h' }) : wpAny (model P w) A (newSet (.type "set")) Q E s := by
  unfold newSet setsByText
  refine wpAny_bind (wpAny_bind (wpAny_askSetting (wpAny_pure ?_)))
  dsimp only
  simp only [newObj]
  refine wpAny_bind (wpAny_alloc (wpAny_pure (h _ (fun b u e => Heap.get?_push_of_some _ e) (Heap.size_push ..) ?_)))
  exact (setR_new_at (ns := []) (Heap.get?_push_size _ rfl)).congr fun k => by simp
theorem diff_at {a q : Addr} {S T : Int → Bool} {c e : Nat} {nm : String} {Q : Value → Shared → Prop} (Ra : SetR w s.heap a S c) (Rq : SetR w s.heap q T e) (small : c / 4 ≤ e) (room : c + 1 < scanBound)
    (h : ∀ h' d m, (∀ b u, s.heap.get? b = some u → h'.get? b = some u) → SetR w h' s.heap.objs.size (fun k => S k && !T k) m → Q (.ref s.heap.objs.size) { s with heap := h', drawn := d }) :
    wpAny (model P w) A (Builtin.Frozenset.difference nm a (.ref q)) Q E s := by
  unfold Builtin.Frozenset.difference
  dsimp only
  refine wpAny_bind (anySet_at Rq ?_)
  refine wp_if_neg (by simp) ?_
  refine wpAny_bind (m := Builtin.Frozenset.addrOf (.ref q)) (wpAny_pure ?_)
  refine wp_if_neg (by simp) ?_
  refine wp_if_pos rfl ?_
  refine wpAny_bind (sizeOf_at Rq ?_)
  refine wpAny_bind (sizeOf_at Ra ?_)
  refine wp_if_neg (by omega) ?_
  refine wpAny_bind (baseOf_at Ra ?_)
  refine wpAny_bind (newSet_at fun h1 k1 z1 R1 => ?_)
  generalize hr0 : s.heap.objs.size = r at R1 z1 h ⊢
  have hra : a < r := by rw [← hr0]; exact Ra.lt
  have hrq : q < r := by rw [← hr0]; exact Rq.lt
  refine wpAny_bind (m := Builtin.Frozenset.addrOf (.ref r)) (wpAny_pure ?_)
  have Ra1 := Ra.at (h' := h1) (k1 a)
  have Rq1 := Rq.at (h' := h1) (k1 q)
  obtain ⟨o, es, ep, t, ho, hex, hd, g, nd, hm, hb, hf, hn, hr, hl⟩ := id Ra1
  refine wpAny_bind (wpAny_setEpoch_of ho hd hf ?_)
  refine wpAny_bind (wpAny_holding ?_)
  refine wpAny_bind (wp_if_pos rfl ?_)
  refine walkU_at ho hd hf hl (fun b hb => ?_) R1 fun es' h2 d hp sb R2 => ?_
  · simp only [List.mem_cons, List.not_mem_nil, or_false] at hb
    rcases hb with rfl | rfl | rfl
    · exact ⟨_, _, Ra1⟩
    · exact ⟨_, _, Rq1⟩
    · exact ⟨_, _, R1⟩
  refine wpAny_bind (MeetsSeq2.wpAny_forIn_array _ (fun rest (b : PUnit) s' => ∃ h' m, s' = { s with heap := h', drawn := d } ∧ Heap.SameBut r h1 h' ∧ SetR w h' r (fun k => S k && !T k && !decide (k ∈ rest.map keyOf)) m ∧ m + rest.length ≤ c ∧ (∀ e ∈ rest, GoodE e) ∧ (rest.map keyOf).Nodup ∧ ∀ k ∈ rest.map keyOf, S k = true) _ ?_ ?_ es' _ ⟨h2, 0, rfl, sb, R2.congr fun k => ?_, ?_, ?_, ?_, ?_⟩)
  · rintro ⟨hh, x⟩ rest b s' ⟨h', m, rfl, sb, R, ml, g, nd, hS⟩
    obtain ⟨k, tk, e1, e2⟩ := g _ List.mem_cons_self
    obtain rfl : x = Value.int k tk := e1
    obtain rfl : hh = hashInt k := e2
    have kk : keyOf (hashInt k, Value.int k tk) = k := rfl
    rw [List.map_cons, kk] at nd hS R
    obtain ⟨nk, nd⟩ := List.nodup_cons.mp nd
    have hSk : S k = true := hS k List.mem_cons_self
    have ml' : m + rest.length + 1 ≤ c := ml
    have un : ∀ (h3 : Heap) {Q : Unit → Shared → Prop}, Heap.SameBut r h1 h3 → Q () { s with heap := h3, drawn := d } → wpAny (model P w) A (Builtin.Frozenset.unchanged nm a ep) Q E { s with heap := h3, drawn := d } := fun h3 Q sb3 hq => by
      unfold Builtin.Frozenset.unchanged
      refine wpAny_bind (wpAny_setEpoch_of ((sb3.2 a (Nat.ne_of_lt hra)).trans ho) hd hf ?_)
      exact wp_if_neg (by simp) (wpAny_pure hq)
    refine wpAny_bind (wpAny_holding (wp_if_pos rfl ?_))
    obtain ⟨oq, esq, epq, tq, hoq, hexq, hdq, gq, ndq, hmq, hbq, hfq, hnq, hrq', hlq⟩ := Rq1
    refine wpAny_bind (PySem.W.setFind_any (knd := intKind P w) (S := T) (k := k) (intKind_is P w k tk) rfl ((sb.2 q (Nat.ne_of_lt hrq)).trans hoq) hdq (good_elems gq) (fun j => (hmq j).trans (good_mem gq j)) hbq hfq fun rr hrr => ?_)
    refine wpAny_bind (wpAny_pure ?_)
    rw [hrr]
    cases hT : T k with
    | true =>
      refine wp_if_neg (by simp) (wpAny_pure ?_)
      refine wpAny_bind (un h' sb (wpAny_pure ⟨h', m, rfl, sb, R.congr fun j => ?_, by omega, fun e he => g e (List.mem_cons_of_mem _ he), nd, fun j hj => hS j (List.mem_cons_of_mem _ hj)⟩))
      by_cases e : j = k
      · rw [e, hT]
        simp
      · simp [e, beq_eq_false_iff_ne.mpr e]
    | false =>
      refine wp_if_pos (by simp) (wpAny_bind ?_)
      refine setR_add_hashed R (by omega) fun h3 sb3 R3 => wpAny_pure ?_
      have sb13 := sb.trans sb3
      refine wpAny_bind (un h3 sb13 (wpAny_pure ⟨h3, _, rfl, sb13, R3.congr fun j => ?_, ?_, fun e he => g e (List.mem_cons_of_mem _ he), nd, fun j hj => hS j (List.mem_cons_of_mem _ hj)⟩))
      · by_cases e : j = k
        · rw [e, hT, hSk]
          simp [nk]
        · simp [e, beq_eq_false_iff_ne.mpr e]
      · split <;> omega
  · rintro b s' ⟨h', m, rfl, sb, R, ml, g, nd, hS⟩
    refine wpAny_pure (wpAny_pure (h h' d m (fun b u e => ?_) (R.congr fun k => ?_)))
    · have := Heap.lt_size e
      rw [hr0] at this
      exact (sb.2 b (Nat.ne_of_lt this)).trans (k1 b u e)
    · simp
  · have hp2 : (es'.toList.map keyOf).Perm (es.toList.map keyOf) := hp.map _
    cases hS : S k with
    | false => rfl
    | true =>
      have : k ∈ es'.toList.map keyOf := hp2.mem_iff.mpr ((hm k).mp hS)
      simp [this]
  · rw [hp.length_eq, Array.length_toList, hn]
    omega
  · exact fun e he => g e (hp.mem_iff.mp he)
  · exact (hp.map keyOf).nodup_iff.mpr nd
  · exact fun k hk => (hm k).mpr ((hp.map keyOf).mem_iff.mp hk)
end
theorem entry_set_sub : entryFor table "set.__sub__" = some Builtin.«frozenset.__sub__» :=
  entryFor_alias (id' := "frozenset.__sub__") (by kernel_rfl) rfl (by decide +kernel) (by kernel_rfl)
def rSetSub (w : World) : R2 := fun x y H Q => ∃ (p q : Addr) (S T : Int → Bool) (c e : Nat), x = .ref p ∧ y = .ref q ∧ H p = some (SetO w p S c) ∧ H q = some (SetO w q T e) ∧ c / 4 ≤ e ∧ c ≤ 4000 ∧
  ∀ r m, H r = none → (∃ ks : List Int, ks.Nodup ∧ (∀ k, k ∈ ks ↔ (S k && !T k) = true) ∧ ks.length = m) → Q (.ref r) (upd H r (SetO w r (fun k => S k && !T k) m))
section
variable {X : Cx} {w : World}
theorem op_setSub (hw : X.w = w := by rfl) : OpR X (binaryOp .Sub) (rSetSub w) := by
  subst hw
  intro pins s σ H x y v u Q I rx ry h
  obtain ⟨p, q, S, T, c, e, rfl, rfl, hp, hq, small, room, k⟩ := h
  cases rx
  cases ry
  have Rp := setO_get I hp
  have Rq := setO_get I hq
  refine wpAny_binaryOp_same (setR_type Rp _ _ _ _) (setR_type Rq _ _ _ _) F.fills_set_sub F.slot_set_sub (wpAny_call_entry F.slot_set_sub (setR_type Rp _ _ _ _) entry_set_sub ?_ (F.args_set_sub_2 _ _))
  refine wpAny_bind (m := Builtin.Frozenset.slot1 "__sub__" _) (wpAny_of_eq (a := (.ref p, .ref q)) (by rfl) ?_)
  dsimp only
  refine wpAny_bind (wpAny_bind (anySet_at Rp ?_))
  refine anySet_at Rq ?_
  refine wp_if_neg (by simp) ?_
  refine wpAny_bind (m := Builtin.Frozenset.addrOf (.ref p)) (wpAny_pure ?_)
  refine wpAny_bind (diff_at Rp Rq small (by unfold scanBound; omega) fun h' d m kp R => ?_)
  have hn : H s.heap.objs.size = none := I.hok.fresh (Nat.le_refl _)
  refine wpAny_pure ⟨_, rfl, (fun z => nomatch z), .ref _, _, I.call (d' := d) (t' := s.toks) (ch := []) (Un.laid kp (Nat.le_refl _) hn) (I.hok.laid kp (Nat.le_refl _) (setO_new R)) I.bare (fun _ z => nomatch z), rfl, k _ m hn ?_⟩
  obtain ⟨o, es, ep, t, _, _, _, _, nd, mem, _, _, sz, _⟩ := R
  exact ⟨es.toList.map keyOf, nd, fun j => (mem j).symm, by rw [List.length_map, Array.length_toList]; exact sz⟩
end
end Ef
namespace Ef
open PySem PySem.Spec PyProof.Rows L2 LamX
/-! ### a law that makes lambdas: its end -/
/-- the code object of the def at f -/
def CodeOf (K : PySem.W.Frag) (f c : Addr) : Prop := ∃ (o : Obj) (fd : FuncData), K.lookup f = some o ∧ o.data = .func fd ∧ fd.code = .ref c
theorem codeOf_tab {K : PySem.W.Frag} {x : Str} {f c P : Addr} (h1 : PySem.W.nsIn K mainGlobals x = some (some (.ref f))) (h2 : PySem.W.tabIn K x = some (c, P)) : CodeOf K f c := by
  unfold PySem.W.tabIn at h2
  rw [h1] at h2
  dsimp only at h2
  split at h2
  · rename_i fd osl e
    split at h2
    · rename_i c2 ec
      split at h2
      · split at h2
        · obtain ⟨rfl, _⟩ := Prod.mk.inj (Option.some.inj h2)
          exact ⟨_, fd, e, rfl, ec⟩
        · cases h2
      · cases h2
    · cases h2
  · cases h2
section
variable {P : Program} {w : World} {K : PySem.W.Frag} {mg : Str → Option Value} {base : Heap}
theorem Fun_ok0C {x qual : Str} {st : Stmt} {f c : Addr} {fd : FuncData} {N ps : List Str} {k : Nat} {sp : Sp} (F : Fun K x qual st f fd) (co : CodeOf K f c) (S : FnScope N ps (defScope st)) (len : ∀ vs H Q E, sp vs H Q E → vs.length = ps.length)
    (bod : ∀ (A : Around) (outer : List Env) (s : Shared) (H : Hp) (vs : List V) (Q : VK) (E : XK), A.guards = some [] → Room k (A.deeper (envOfC qual (defScope st) s.heap.objs.size f (.ref c))) → sp vs H Q E →
      ∃ t, PSs (cxOf CX0 P w K mg base N qual (defScope st) f (.ref c) A outer s H E).nox (defBody st) t ∧ t { nx := fun _ H' => Q .non H', rt := Q } (start N vs) H) :
    FnG P w K mg base CX0 (k + 1) f fd ps sp := by
  obtain ⟨oc, od, kV, doc, pm, an, cdv, ct, osl, rfl, lk, hcd⟩ := F.ex
  obtain ⟨o, fd2, e1, e2, e3⟩ := co
  have ecd : cdv = .ref c := by
    rw [lk] at e1
    obtain rfl := Option.some.inj e1
    cases e2
    exact e3
  subst ecd
  refine ⟨len, fun A gd outer s H args us vs Q E room e0 bnd rel wish => ?_⟩
  refine run_ofS (N := N) (ps := ps) lk hcd S room e0 bnd rel (len _ _ _ _ wish) fun hr => ?_
  obtain ⟨t, pt, rd⟩ := bod A outer s H vs Q E gd hr wish
  exact ⟨t, pt.nox, rd⟩
end
def tabHp (K : PySem.W.Frag) (a : Addr) (vs : List Value) (ns : List Int) (ts : List Addr) : Hp := fun b => if b ∈ ts then some (.tbl #[]) else scriptHp K a vs ns b
section
variable {K : PySem.W.Frag} {a : Addr} {vs : List Value} {ns : List Int} {ts : List Addr}
theorem tabHp_in {b : Addr} (h : b ∈ ts) : tabHp K a vs ns ts b = some (.tbl #[]) := if_pos h
theorem tabHp_out {b : Addr} (h : b ∉ ts) : tabHp K a vs ns ts b = scriptHp K a vs ns b := if_neg h
theorem tabHp_some {b : Addr} {u : HO} (h : tabHp K a vs ns ts b = some u) : (b ∈ ts ∧ u = .tbl #[]) ∨ (b ∉ ts ∧ b = a ∧ K.lookup a = none ∧ u = .frz (scriptObj vs) (.lst (ns.map V.int))) := by
  by_cases c : b ∈ ts
  · rw [tabHp_in c] at h
    exact .inl ⟨c, (Option.some.inj h).symm⟩
  · rw [tabHp_out c] at h
    exact .inr ⟨c, scriptHp_some h⟩
theorem tabHp_none {b : Addr} {o : Obj} {h : Heap} (ht : ∀ p ∈ ts, h.get? p = some (PySem.W.tabObj #[])) (ha : h.get? a = some (scriptObj vs)) (e : h.get? b = some o) (hd : ∀ its n, o.data ≠ .seq its n) (hf : o.data ≠ .fields #[]) : tabHp K a vs ns ts b = none := by
  have nb : b ∉ ts := fun z => by
    have e2 := ht b z
    rw [e] at e2
    obtain rfl := Option.some.inj e2
    exact hf rfl
  rw [tabHp_out nb]
  exact scriptHp_none ha e hd
end
/-- what is asked of a law with tables: cs tells the defs that make lambdas, their code objects and tables -/
def LawT (q : Program) (l : PySem.W.OpenLaw) (w : World) (K : PySem.W.Frag) (k n : Nat) (x : Str) (mg : Str → Option Value) (fa : Addr) : Prop :=
  ∃ (fd : FuncData) (cs : List (Str × Addr × Addr)) (sp : Sp), (∀ p ∈ cs, PySem.W.tabIn K p.1 = some p.2 ∧ K.lookup p.2.2 = none ∧ ((recsOf q).find? fun e => e.name == p.1).isSome = true) ∧
    (∀ (s : Shared) (u : Value), BindsTo s fd ⟨[u], []⟩ [(x, u)]) ∧
    (∀ (H : Hp) (a : Addr) (ns : List Int), ns.length ≤ n → (∀ p ∈ cs, H p.2.2 = some (.tbl #[])) → SqL K H a (ns.map V.int) → sp [.ref a] H (fun v _ => v = .bl true) fun _ _ _ => False) ∧
    ∀ base : Heap, K.In base → base.Ns mainGlobals mg → (∀ p ∈ cs, TabB base mg p.2.1 p.2.2) → FnG l.prog w K mg base CX0 k fa fd [x] sp
theorem lawGT {l : PySem.W.OpenLaw} {n k : Nat} {q : Program} {loose : List Str} {XP : (Str → Option Value) → Heap → Prop} {YP : World → Heap → Prop} {d : DefRec} {K : Params → PySem.W.Frag} {x : Str}
    (hn : l.most = some n) (hn2 : n ≤ sizeLine) (hdf : d.params.defaults = []) (room : Room k callerA)
    (hY : ∀ (w : World) (h : Heap), YP w h → (K w.params).In h)
    (F : ∀ (w : World) (mg : Str → Option Value) (fa : Addr) (h : Heap), (K w.params).In h → h.Ns mainGlobals mg → mg d.name = some (.ref fa) → LawT q l w (K w.params) k n x mg fa) :
    PySem.W.WalkO q loose XP YP l.row.toRowW d [] (fun f vs => PySem.call f vs) := by
  refine Att.attach_call hn hdf fun w s₀ s₁ mg mb fa o pm cd doc a vs ns G Y ho hd hcd hmg hobj hints hlen hgen => ?_
  have kin := hY w _ Y
  obtain ⟨fd, cs, sp, tbs, bnd, hsp, FF⟩ := F w mg fa _ kin G.T.g hmg
  have ha : s₁.heap.get? a = some (scriptObj vs) := hobj
  have short : ns.length ≤ sizeLine := Nat.le_trans hlen hn2
  have tabs : ∀ p ∈ cs, PySem.W.CodeHd s₁.heap p.2.1 p.2.2 ∧ s₁.heap.get? p.2.2 = some (PySem.W.tabObj #[]) := fun p hp => by
    obtain ⟨t1, t2, t3⟩ := tbs p hp
    obtain ⟨dr, hdr⟩ := Option.isSome_iff_exists.mp t3
    exact PySem.W.tab_of G.T kin hdr t1
  have ht : ∀ b ∈ cs.map (fun p => p.2.2), s₁.heap.get? b = some (PySem.W.tabObj #[]) := fun b hb => by
    obtain ⟨p, hp, rfl⟩ := List.mem_map.mp hb
    exact (tabs p hp).2
  have mem : ∀ p ∈ cs, p.2.2 ∈ cs.map (fun p => p.2.2) := fun p hp => List.mem_map.mpr ⟨p, hp, rfl⟩
  have na : a ∉ cs.map (fun p => p.2.2) := fun z => by
    have e := ht a z
    rw [ha] at e
    have e2 := congrArg Obj.data (Option.some.inj e)
    cases e2
  generalize hH : tabHp (K w.params) a vs ns (cs.map fun p => p.2.2) = H
  have some' : ∀ {b : Addr} {u : HO}, H b = some u → (b ∈ cs.map (fun p => p.2.2) ∧ u = .tbl #[]) ∨ (b ∉ cs.map (fun p => p.2.2) ∧ b = a ∧ (K w.params).lookup a = none ∧ u = .frz (scriptObj vs) (.lst (ns.map V.int))) := fun z => by
    rw [← hH] at z
    exact tabHp_some z
  have none' : ∀ {b : Addr} {o : Obj}, s₁.heap.get? b = some o → (∀ its n, o.data ≠ .seq its n) → o.data ≠ .fields #[] → H b = none := fun e h1 h2 => by
    rw [← hH]
    exact tabHp_none ht ha e h1 h2
  have keep0 : ∀ {b : Addr} {o : Obj}, s₁.heap.get? b = some o → H b = none → (hidT s₁.heap H).get? b = some o := fun e z => hidT_get e z
  have nsK : ∀ {b : Addr} {m : Str → Option Value}, s₁.heap.Ns b m → (hidT s₁.heap H).Ns b m := by
    rintro b m ⟨o, es, ep, e, dd, r⟩
    refine ⟨o, es, ep, keep0 e (none' e (fun its n z => ?_) fun z => ?_), dd, r⟩ <;> · rw [dd] at z; cases z
  have kinB : (K w.params).In (hidT s₁.heap H) := fun b o e => keep0 (kin b o e) (by
    cases z : H b with
    | none => rfl
    | some u =>
      rcases some' z with ⟨z1, _⟩ | ⟨_, rfl, z2, _⟩
      · obtain ⟨p, hp, rfl⟩ := List.mem_map.mp z1
        rw [(tbs p hp).2.1] at e
        cases e
      · rw [z2] at e
        cases e)
  have hM : Mod (K w.params) mg (hidT s₁.heap H) := by
    obtain ⟨mc, h1, h2⟩ := G.T.nolimit
    exact ⟨kinB, nsK G.T.g, ⟨mb, nsK G.T.b, G.T.builtins⟩, ⟨mc, nsK h1, h2⟩⟩
  have hok : HOk l.prog w H s₁.heap := fun b u z => by
    rcases some' z with ⟨z1, rfl⟩ | ⟨_, rfl, _, rfl⟩
    · exact ht b z1
    · exact ⟨ha, by rw [List.length_map]; exact short, vs, _, vals_ints hints, ha⟩
  have hS : SqL (K w.params) H a (ns.map V.int) := by
    cases hk : (K w.params).lookup a with
    | none =>
      refine .inl (.inr ⟨scriptObj vs, ?_⟩)
      rw [← hH, tabHp_out na]
      exact if_pos ⟨rfl, hk⟩
    | some o =>
      have e := kin a o hk
      rw [ha] at e
      obtain rfl := Option.some.inj e
      exact .inr ⟨_, vs.toArray, _, hk, rfl, rfl, rfl, by rw [List.size_toArray, hints.length]; exact short, by simpa using vals_ints hints⟩
  have hT : ∀ p ∈ cs, H p.2.2 = some (.tbl #[]) := fun p hp => by
    rw [← hH]
    exact tabHp_in (mem p hp)
  have TB : ∀ p ∈ cs, TabB (hidT s₁.heap H) mg p.2.1 p.2.2 := fun p hp => by
    obtain ⟨c1, c2⟩ := tabs p hp
    refine ⟨?_, ?_, fun z => ?_⟩
    · obtain ⟨o, us, file, tf, flags, tg, inF, text, tt, e1, r1, r2, r3, rr⟩ := c1
      refine ⟨o, us, file, tf, flags, tg, inF, text, tt, keep0 e1 (none' e1 (fun its n z => ?_) fun z => ?_), r1, r2, r3, rr⟩
      · rw [r2] at z
        cases z
      · rw [r2] at z
        cases z
        simp at r3
    · obtain ⟨bm, ob, b1, b2, b3, b4, b5, b6⟩ := G.T.bmain
      refine ⟨bm, ob, b1, b2, fun z => ?_, fun z => ?_, keep0 b3 (none' b3 (fun its n z => ?_) fun z => ?_), b4, b5, b6⟩
      · obtain ⟨o, es, ep, e, dd, _⟩ := G.T.g
        rw [z, e] at b3
        cases b3
        rw [dd] at b6
        cases b6
      · rw [z, c2] at b3
        cases b3
        cases b6
      · rw [b6] at z
        cases z
      · rw [b6] at z
        cases z
    · obtain ⟨o, es, ep, e, dd, _⟩ := G.T.g
      rw [z, c2] at e
      cases e
      cases dd
  have e0 : Env0 l.prog w (K w.params) mg (hidT s₁.heap H) callerA [] s₁ H :=
    ⟨rfl, hM, fun b o e => of_hidT e, Nat.le_of_eq (hidT_size _ _), trivial, fun b z => absurd (show b ∈ ([] : List Addr) from z) (by simp), hok, .of_eq hgen⟩
  refine codeAny_mono ((FF _ kinB (nsK G.T.g) TB).run callerA rfl [] s₁ _ ⟨[.ref a], []⟩ [.ref a] [.ref a] _ _ room e0 (bnd s₁ (.ref a)) (.cons rfl .nil) (hsp _ a ns hlen hT hS)) fun r s' got => ?_
  cases r with
  | error e => exact got.elim
  | ok fl =>
    cases fl with
    | next => exact got.elim
    | brk => exact got.elim
    | cont => exact got.elim
    | ret u =>
      obtain ⟨v, H', os, bare, un, hok', rv, z⟩ := got
      obtain rfl : v = .bl true := z
      obtain rfl : u = Value.bool true := rv
      have grown : ∀ p ∈ cs, ∃ more : Array Value, s'.heap.get? p.2.2 = some (PySem.W.tabObj more) := fun p hp => by
        obtain ⟨more, z⟩ := un.tbls p.2.2 #[] (hT p hp)
        exact ⟨_, hok' p.2.2 _ z⟩
      have old : ∀ b o, b ∉ cs.map (fun p => p.2.2) → s₁.heap.get? b = some o → s'.heap.get? b = some o := fun b o nb e => by
        cases z : H b with
        | none => exact un.keep b o e z (fun y => absurd (show b ∈ ([] : List Addr) from y) (by simp)) (by simp)
        | some u =>
          rcases some' z with ⟨z1, _⟩ | ⟨_, rfl, _, rfl⟩
          · exact absurd z1 nb
          · obtain ⟨e2, _⟩ := hok' b _ (un.frzs b _ _ z)
            rw [ha] at e
            obtain rfl := Option.some.inj e
            exact e2
      refine ⟨rfl, ⟨fun b o e => ?_, fun b o e => ?_⟩, os, bare⟩
      · by_cases c : b ∈ cs.map (fun p => p.2.2)
        · obtain ⟨p, hp, rfl⟩ := List.mem_map.mp c
          obtain ⟨more, hm⟩ := grown p hp
          obtain ⟨c1, c2⟩ := tabs p hp
          rw [c2] at e
          obtain rfl := Option.some.inj e
          exact .inr (.inl ⟨(c1.tab c2).isCodeTable, rfl, #[], more, rfl, by rw [Array.empty_append]; exact hm⟩)
        · exact .inl (old b o c e)
      · by_cases c : b ∈ cs.map (fun p => p.2.2)
        · obtain ⟨p, hp, rfl⟩ := List.mem_map.mp c
          obtain ⟨more, hm⟩ := grown p hp
          exact ⟨_, hm⟩
        · exact ⟨o, old b o c e⟩
/-! ### the rules -/
section
variable {X : Cx}
theorem pe_lam {T : List (Addr × Str)} {TT : (XK → Hp → VK → Prop) → Hp → VK → Prop} {x a : Str} {g c P : Addr} {k : Nat} {st : Stmt} {fd : FuncData} {Ng : List Str} {params : Arguments} {body : Expr} {scope : Scope} {t : XK → TE} {p lpos pos : Pos}
    (F : Fun X.K x x st g fd) (hg : Gl X x) (hm : X.mg x = some (.ref g)) (hb : L2.Binds X.K fd [a] []) (Sg : FnScope Ng [a] (defScope st)) (hNg : Ng[0]? = some a) (hva : Vis (defScope st) a)
    (hG : ∀ cdg, GivesTo X Ng x (defScope st) g cdg (defBody st) a (X.env.qual ++ "<lambda>") TT)
    (TB : TabB X.base X.mg c P) (hcode : X.env.code = .ref c) (hmT : (P, X.env.qual ++ "<lambda>") ∈ T) (hu : ∀ p ∈ T, p.1 = P → p.2 = X.env.qual ++ "<lambda>") (hr : Room (k + 2) X.A) (L : LamS X.env.scope scope)
    (hbody : ∀ (A : Around) (outer : List Env) (s : Shared) (H : Hp) (E : XK) (f c' : Addr), Room k (A.deeper (lamEnv X scope s.heap.objs.size f c')) → PE (lamCx X A outer s H E scope f c') body (t E))
    (hdef : defaultsOf params X.env = ([], []) := by rfl)
    (hbind : ∀ (q : Str) (cl : List (Str × Addr)) (pm cv ctv : Value), bindArgs (PySem.W.kla_fn "<lambda>" q params body scope cl pm cv ctv) ⟨[], []⟩ = pure [] := by intros; rfl)
    (hdb : (x == ("__debug__" : Str)) = false := by decide) (hd : (a == ("__debug__" : Str)) = false := by decide) (hcd : (a == ("__classdict__" : Str)) = false := by decide) :
    PE X (.Call (.Name x p) [.Lambda params body scope lpos] [] pos) (tLam T TT t) := by
  obtain ⟨oc, od, kV, doc, pm, an, cdv, ct, osl, rfl, lk, hcg⟩ := F.ex
  exact pe_lamcall hg hm F.kp lk hcg hb Sg hNg hva (hG cdv) TB hcode hmT hu hr L hdef hbind hbody hdb hd hcd
theorem takes_len {W : WX} (t : Takes X W) : Takes X (fun c d σ H => σ.length = X.N.length → W c d σ H) := fun u s' ⟨a, B, sI, pins, σ, H, cls, d, e, I, nb, up, sky, na, os, ag, w⟩ =>
  t u s' ⟨a, B, sI, pins, σ, H, cls, d, e, I, nb, up, sky, na, os, ag, w I.len⟩
/-- the call of what was handed in -/
def tAct (n : Nat) (W : WX) (f c' : Addr) (q : Str) (tl : XK → Hp → VK → Prop) : TE := fun σ H Q => ∃ E : XK, (∀ cls d σ' H', E cls d H' → σ'.length = n → W cls d σ' H') ∧ σ[0]? = some (some (.ref f)) ∧ H c' = some (CodeO c' q) ∧ tl E H Q
theorem pe_actE {f c' : Addr} {q : Str} {tl : XK → Hp → VK → Prop} {e : Expr} {W : WX} (n : Nat) (tk : Takes X W)
    (act : ∀ E : XK, ∀ W' : WX, Takes X W' → (∀ cls d σ' H', E cls d H' → W' cls d σ' H') → PE X e (fun σZ HZ Q => σZ[0]? = some (some (.ref f)) ∧ HZ c' = some (CodeO c' q) ∧ tl E HZ Q))
    (hn : X.N.length = n := by rfl) : PE X e (tAct n W f c' q tl) := by
  subst hn
  refine ⟨fun pins s σ H Q I h => ?_⟩
  obtain ⟨E, h1, h2, h3, h4⟩ := h
  exact (act E _ (takes_len tk) h1).run pins s σ H Q I ⟨h2, h3, h4⟩
theorem len5 {σ : L2.St} (h : σ.length = 5) : ∃ a b c d e, σ = [a, b, c, d, e] := by
  match σ, h with
  | [a, b, c, d, e], _ => exact ⟨a, b, c, d, e, rfl⟩
end
theorem hu1 {P : Addr} {q : Str} : ∀ p ∈ [(P, q)], p.1 = P → p.2 = q := fun p hp _ => by
  cases hp with
  | head => rfl
  | tail _ h => cases h
theorem hu2a {P P2 : Addr} {q q2 : Str} (ne : P ≠ P2) : ∀ p ∈ [(P, q), (P2, q2)], p.1 = P → p.2 = q := fun p hp e => by
  cases hp with
  | head => rfl
  | tail _ h =>
    cases h with
    | head => exact absurd e.symm ne
    | tail _ h => cases h
theorem hu2b {P P2 : Addr} {q q2 : Str} (ne : P ≠ P2) : ∀ p ∈ [(P, q), (P2, q2)], p.1 = P2 → p.2 = q2 := fun p hp e => by
  cases hp with
  | head => exact absurd e ne
  | tail _ h =>
    cases h with
    | head => rfl
    | tail _ h => cases h
/-! ### what is kept while tables grow -/
theorem tabs_same {T : List (Addr × Str)} {H H' : Hp} (t : Tabs T H) (s : Same H H') : Tabs T H' := t.ext s
theorem tabs_but {T : List (Addr × Str)} {H H' : Hp} {p : Addr} {xs : List V} (t : Tabs T H) (hp : H p = some (.lst xs)) (s : But p H H') : Tabs T H' := fun q hq => by
  obtain ⟨ps, h1, h2, h3⟩ := t q hq
  refine ⟨ps, s _ _ (fun z => ?_) h1, h2, fun pos cv hc => ?_⟩
  · rw [z, hp] at h1
    cases h1
  · obtain ⟨c, e1, e2⟩ := h3 pos cv hc
    refine ⟨c, e1, s _ _ (fun z => ?_) e2⟩
    rw [z, hp] at e2
    unfold CodeO at e2
    cases e2
theorem extN_same {H H' : Hp} (s : Same H H') : ExtN H H' := fun b o e _ => s b o e
def ButN (p : Addr) (H H' : Hp) : Prop := ∀ b o, b ≠ p → H b = some o → (∀ ps, o ≠ .tbl ps) → H' b = some o
theorem ButN.refl (p : Addr) (H : Hp) : ButN p H H := fun _ _ _ e _ => e
theorem ButN.of {p : Addr} {H H' : Hp} (s : But p H H') : ButN p H H' := fun b o n e _ => s b o n e
theorem ButN.ext {p : Addr} {H H' : Hp} (s : ExtN H H') : ButN p H H' := fun b o _ e n => s b o e n
theorem ButN.trans {p : Addr} {H H1 H2 : Hp} (s : ButN p H H1) (t : ButN p H1 H2) : ButN p H H2 := fun b o n e z => t b o n (s b o n e z) z
theorem ButN.same {p : Addr} {H H1 H2 : Hp} (s : ButN p H H1) (t : Same H1 H2) : ButN p H H2 := fun b o n e z => t b o (s b o n e z)
theorem ButN.tup {p t : Addr} {H H' : Hp} {xs : List V} (s : ButN p H H') (n : t ≠ p) (h : H t = some (.tup xs)) : H' t = some (.tup xs) := s _ _ n h (fun _ z => by cases z)
theorem ButN.lst {p t : Addr} {H H' : Hp} {xs : List V} (s : ButN p H H') (n : t ≠ p) (h : H t = some (.lst xs)) : H' t = some (.lst xs) := s _ _ n h (fun _ z => by cases z)
theorem extN_tup {t : Addr} {H H' : Hp} {xs : List V} (s : ExtN H H') (h : H t = some (.tup xs)) : H' t = some (.tup xs) := s _ _ h (fun _ z => by cases z)
theorem extN_lst {t : Addr} {H H' : Hp} {xs : List V} (s : ExtN H H') (h : H t = some (.lst xs)) : H' t = some (.lst xs) := s _ _ h (fun _ z => by cases z)
theorem SqL_butN {K : PySem.W.Frag} {H H' : Hp} {a p : Addr} {xs : List V} (h : SqL K H a xs) (np : H p = none) (s : ButN p H H') : SqL K H' a xs := by
  rcases h with (h | ⟨o, h⟩) | h
  · exact .inl (.inl (s _ _ (ne_of_none h np) h (fun _ z => by cases z)))
  · exact .inl (.inr ⟨o, s _ _ (ne_of_none h np) h (fun _ z => by cases z)⟩)
  · exact .inr h
theorem SqL_extN {K : PySem.W.Frag} {H H' : Hp} {a : Addr} {xs : List V} (h : SqL K H a xs) (s : ExtN H H') : SqL K H' a xs := by
  rcases h with (h | ⟨o, h⟩) | h
  · exact .inl (.inl (s _ _ h (fun _ z => by cases z)))
  · exact .inl (.inr ⟨o, s _ _ h (fun _ z => by cases z)⟩)
  · exact .inr h
theorem SqT_extN {K : PySem.W.Frag} {H H' : Hp} {a : Addr} {xs : List V} (h : SqT K H a xs) (s : ExtN H H') : SqT K H' a xs := by
  rcases h with (h | ⟨o, h⟩) | h
  · exact .inl (.inl (s _ _ h (fun _ z => by cases z)))
  · exact .inl (.inr ⟨o, s _ _ h (fun _ z => by cases z)⟩)
  · exact .inr h
end Ef
namespace Ef
open PySem PySem.Spec PyProof.Rows L2
/-! ### data with empty dicts in it, shown -/
mutual
inductive Dz (K : PySem.W.Frag) (H : Hp) : V → PyData → Prop
  | non : Dz K H .non .none
  | bl (b : Bool) : Dz K H (.bl b) (.bool b)
  | int (i : Int) : Dz K H (.int i) (.int i)
  | str (x : Str) : Dz K H (.str x) (.str x)
  | dic {p : Addr} : H p = some (.dK []) → Dz K H (.ref p) (.dict [])
  | tup {a : Addr} {xs : List V} {ds : List PyData} : SqT K H a xs → DzAll K H xs ds → Dz K H (.ref a) (.tuple ds)
  | lst {a : Addr} {xs : List V} {ds : List PyData} : SqL K H a xs → a ≠ sysModules → DzAll K H xs ds → Dz K H (.ref a) (.list ds)
inductive DzAll (K : PySem.W.Frag) (H : Hp) : List V → List PyData → Prop
  | nil : DzAll K H [] []
  | cons {v : V} {vs : List V} {d : PyData} {ds : List PyData} : Dz K H v d → DzAll K H vs ds → DzAll K H (v :: vs) (d :: ds)
end
section
variable {K : PySem.W.Frag} {H H' : Hp}
mutual
theorem Dz.mono (e : ∀ b o, H b = some o → (∀ ps, o ≠ .tbl ps) → H' b = some o) : ∀ {v : V} {d : PyData}, Dz K H v d → Dz K H' v d
  | _, _, .non => .non
  | _, _, .bl b => .bl b
  | _, _, .int i => .int i
  | _, _, .str x => .str x
  | _, _, .dic h => .dic (e _ _ h (fun _ z => by cases z))
  | _, _, .tup h a => .tup (by
      rcases h with (h | ⟨o, h⟩) | h
      · exact .inl (.inl (e _ _ h (fun _ z => by cases z)))
      · exact .inl (.inr ⟨o, e _ _ h (fun _ z => by cases z)⟩)
      · exact .inr h) (DzAll.mono e a)
  | _, _, .lst h n a => .lst (by
      rcases h with (h | ⟨o, h⟩) | h
      · exact .inl (.inl (e _ _ h (fun _ z => by cases z)))
      · exact .inl (.inr ⟨o, e _ _ h (fun _ z => by cases z)⟩)
      · exact .inr h) n (DzAll.mono e a)
theorem DzAll.mono (e : ∀ b o, H b = some o → (∀ ps, o ≠ .tbl ps) → H' b = some o) : ∀ {vs : List V} {ds : List PyData}, DzAll K H vs ds → DzAll K H' vs ds
  | _, _, .nil => .nil
  | _, _, .cons a b => .cons (Dz.mono e a) (DzAll.mono e b)
end
end
section
variable {X : Cx} {pins : List (Addr × Obj)} {σ : L2.St} {H : Hp} {s : Shared}
theorem dz_app {a : Addr} {xs ys : List Addr} (h1 : a ∉ xs) (h2 : a ∉ ys) : a ∉ xs ++ ys := fun z => (List.mem_append.mp z).elim h1 h2
mutual
theorem Dz.reads (I : Inv X pins σ H s) : ∀ (d : PyData) (v : V) (u : Value), Dz X.K H v d → RelV v u → ∃ as, Reads s.heap u d as ∧ sysModules ∉ as
  | .none, _, _, h, r => by
    cases h
    cases r
    exact ⟨_, Reads.none, List.not_mem_nil⟩
  | .bool b, _, _, h, r => by
    cases h
    cases r
    exact ⟨_, Reads.bool b, List.not_mem_nil⟩
  | .int i, _, _, h, r => by
    cases h
    obtain ⟨t, rfl⟩ := r
    exact ⟨_, Reads.int i t, List.not_mem_nil⟩
  | .str x, _, _, h, r => by
    cases h
    obtain ⟨t, rfl⟩ := r
    exact ⟨_, Reads.str x t, List.not_mem_nil⟩
  | .list ds, _, _, h, r => by
    cases h with
    | lst hs n ha =>
      cases r
      obtain ⟨its, rv, ⟨o, nn, ho, hc, _, hd⟩, _⟩ := I.list hs
      obtain ⟨as, hr, hn⟩ := Dz.readsAll I ds _ its ha rv
      refine ⟨_, Reads.list ho hc hd hr, fun z => ?_⟩
      rcases List.mem_cons.mp z with e | e
      · exact n e.symm
      · exact hn e
  | .tuple ds, _, _, h, r => by
    cases h with
    | tup hs ha =>
      cases r
      obtain ⟨its, rv, ⟨o, ho, hc, n, hd⟩, _⟩ := I.tuple hs
      obtain ⟨as, hr, hn⟩ := Dz.readsAll I ds _ its ha rv
      exact ⟨_, Reads.tuple ho hc hd hr, hn⟩
  | .dict kvs, _, _, h, r => by
    cases h with
    | dic hp =>
      rename_i p
      cases r
      obtain ⟨_, hsys, vs, kv, o, es, ep, ho, hx, hd, hk, hpr, hn⟩ := dk_of I.hok hp
      have e1 : vs = [] := by
        cases kv
        rfl
      subst e1
      have e2 : es.toList = [] := by
        generalize es.toList = l at hpr ⊢
        cases hpr
        rfl
      have rd : Reads s.heap (.ref p) (.dict []) (p :: [] ++ []) := by
        refine .dict ho hx.1 hd ?_ ?_
        · rw [e2]
          exact .nil
        · rw [e2]
          exact .nil
      refine ⟨_, rd, fun z => ?_⟩
      have e3 : sysModules = p := by simpa using z
      rw [← e3] at hsys
      exact absurd hsys (by simp)
theorem Dz.readsAll (I : Inv X pins σ H s) : ∀ (ds : List PyData) (vs : List V) (us : List Value), DzAll X.K H vs ds → Vals vs us → ∃ as, ReadsAll s.heap us ds as ∧ sysModules ∉ as
  | [], _, _, h, r => by
    cases h
    cases r
    exact ⟨_, ReadsAll.nil, List.not_mem_nil⟩
  | d :: ds, _, _, h, r => by
    cases h with
    | cons h1 h2 =>
      cases r with
      | cons r1 r2 =>
        obtain ⟨as, q1, n1⟩ := Dz.reads I d _ _ h1 r1
        obtain ⟨bs, q2, n2⟩ := Dz.readsAll I ds _ _ h2 r2
        exact ⟨_, ReadsAll.cons q1 q2, dz_app n1 n2⟩
end
end
/-- what may be shown: plain data, or data with empty dicts in it -/
def ShowV (K : PySem.W.Frag) (H : Hp) (v : V) (d : PyData) : Prop := (Dp K H v d ∧ Sh 60 80000 d) ∨ ∃ a, v = .ref a ∧ Dz K H v d ∧ d.showable = true ∧ d.depth ≤ 60 ∧ d.shown.length ≤ sizeLine
def rReprZ (K : PySem.W.Frag) : List V → Hp → VK → Prop := fun xs H Q => ∃ v d, xs = [v] ∧ ShowV K H v d ∧ Q (.str d.shown) H
section
variable {X : Cx} (K : PySem.W.Frag)
theorem call_reprZ (gd : X.A.guards = some []) (hu : X.A.units + 66 < cLine) (h : X.K = K := by rfl) : CallR X (.builtin "repr") (rReprZ K) := by
  subst h
  intro pins s σ H xs us Q I r h
  obtain ⟨v, d, rfl, hv, q⟩ := h
  rcases hv with ⟨hD, hS⟩ | ⟨a, rfl, hz, hsh, hdp, hsz⟩
  · exact call_reprD gd hu pins s σ H _ us Q I r ⟨v, d, rfl, hD, hS, q⟩
  · obtain ⟨u, rfl, ru⟩ := vals1 r
    obtain ⟨as, rd, hn⟩ := Dz.reads I d _ _ hz ru
    obtain rfl : u = Value.ref a := ru
    refine repr_of_reads' rd hsh (fun _ => hn) gd (by omega) (fun _ _ e => e) (fun h' u tk hk => ?_) hsz
    exact ⟨.str _, H, I.kept hk, ⟨u, rfl⟩, q⟩
end
/-! ### a list times an int, its address told -/
def rRepN : R2 := fun x y H Q => ∃ l k xs, x = .ref l ∧ y = .int k ∧ H l = some (.lst xs) ∧ 0 ≤ k ∧ k < 2 ^ 63 ∧ xs.length * k.toNat ≤ sizeLine ∧ ∀ p, H p = none → p ≠ sysModules → Q (.ref p) (upd H p (.lst (List.replicate k.toNat xs).flatten))
section
variable {X : Cx}
theorem rep_fold (its : List Value) : ∀ m : Nat, List.foldl (fun a b => a ++ b) #[] (List.replicate m its.toArray) = (List.replicate m its).flatten.toArray := fun m => by
  have z := foldl_rep its m []
  rwa [List.nil_append] at z
theorem op_repN : OpR X (binaryOp .Mult) rRepN := by
  rintro pins s σ H _ _ v u Q I rx ry ⟨l, k, xs, rfl, rfl, hl, k0, k1, size, q⟩
  obtain rfl : v = Value.ref l := rx
  obtain ⟨tk, rfl⟩ := ry
  obtain ⟨lx, its, n, rel, len, get⟩ := I.lstM hl
  have fits : its.toArray.size * k.toNat ≤ sizeLine := by
    rw [List.size_toArray, ← len]
    exact size
  have line : (sizeLine : Nat) ≤ (2 ^ 63 - 1) / 8 := by decide
  have a1 : ¬ (!Builtin.List.listFitsIndex k) = true := by
    rw [fitsIndex_both (by omega) k1]
    decide
  have a2 : ¬ its.toArray.size * k.toNat > (2 ^ 63 - 1) / 8 := Nat.not_lt.mpr (Nat.le_trans fits line)
  have a3 : ¬ Builtin.List.listTooLong (its.toArray.size * k.toNat) = true := by
    rw [notLongL fits]
    decide
  have whole : List.foldl (fun a b => a ++ b) #[] (List.replicate (if its.toArray.isEmpty = true then 0 else k.toNat) its.toArray) = (List.replicate k.toNat its).flatten.toArray := by
    rw [rep_fold]
    cases its <;> simp
  refine wpAny_binaryOp_repeat_ref (T := "list") (U := "int") (by decide) ⟨_, get, rfl⟩ (fun s' => typeIs_int s' k tk) noFill_list_mul F.fills_int_mul F.slot_int_rmul repeat_list F.slot_int_index.lookup (call_meets F.slot_int_rmul (typeIs_int s k tk) F.entry_int_rmul (F.args_int_rmul_2 _ _) (int___rmul___int_list k tk l its.toArray n) ⟨get, rfl, ⟨_, get, rfl⟩, ?_⟩)
  refine call_meets F.slot_list_mul ⟨_, get, rfl⟩ F.entry_list_mul (F.args_list_mul_2 _ _) (AutoListH.list___mul___list_int_3 l its.toArray n k tk a1 a2 a3) ⟨get, ?_⟩
  rw [whole]
  refine ⟨.ref _, _, I.lnew (t' := s.toks) (rel.rep k.toNat) ?_, rfl, q _ I.fresh (far_new I)⟩
  rw [PyProof.Rows.lm_len_rep_flat, Nat.mul_comm]
  exact size
end
end Ef
namespace Ef
open PySem PySem.Spec PyProof.Rows L2
/-! ### data with dicts {} and {0: (..)} in it, shown -/
mutual
inductive Dd (K : PySem.W.Frag) (H : Hp) : V → PyData → Prop
  | non : Dd K H .non .none
  | bl (b : Bool) : Dd K H (.bl b) (.bool b)
  | int (i : Int) : Dd K H (.int i) (.int i)
  | str (x : Str) : Dd K H (.str x) (.str x)
  | dic {p : Addr} : H p = some (.dK []) → Dd K H (.ref p) (.dict [])
  | dic1 {p t : Addr} {i : Int} {ns : List Int} : H p = some (.dK [(.inl i, .ref t)]) → SqT K H t (ns.map V.int) → Dd K H (.ref p) (.dict [(.int i, .tuple (ns.map PyData.int))])
  | tup {a : Addr} {xs : List V} {ds : List PyData} : SqT K H a xs → DdAll K H xs ds → Dd K H (.ref a) (.tuple ds)
  | lst {a : Addr} {xs : List V} {ds : List PyData} : SqL K H a xs → a ≠ sysModules → DdAll K H xs ds → Dd K H (.ref a) (.list ds)
inductive DdAll (K : PySem.W.Frag) (H : Hp) : List V → List PyData → Prop
  | nil : DdAll K H [] []
  | cons {v : V} {vs : List V} {d : PyData} {ds : List PyData} : Dd K H v d → DdAll K H vs ds → DdAll K H (v :: vs) (d :: ds)
end
section
variable {K : PySem.W.Frag} {H H' : Hp}
mutual
theorem Dd.mono (e : ∀ b o, H b = some o → (∀ ps, o ≠ .tbl ps) → H' b = some o) : ∀ {v : V} {d : PyData}, Dd K H v d → Dd K H' v d
  | _, _, .non => .non
  | _, _, .bl b => .bl b
  | _, _, .int i => .int i
  | _, _, .str x => .str x
  | _, _, .dic h => .dic (e _ _ h (fun _ z => by cases z))
  | _, _, .dic1 h a => .dic1 (e _ _ h (fun _ z => by cases z)) (by
      rcases a with (a | ⟨o, a⟩) | a
      · exact .inl (.inl (e _ _ a (fun _ z => by cases z)))
      · exact .inl (.inr ⟨o, e _ _ a (fun _ z => by cases z)⟩)
      · exact .inr a)
  | _, _, .tup h a => .tup (by
      rcases h with (h | ⟨o, h⟩) | h
      · exact .inl (.inl (e _ _ h (fun _ z => by cases z)))
      · exact .inl (.inr ⟨o, e _ _ h (fun _ z => by cases z)⟩)
      · exact .inr h) (DdAll.mono e a)
  | _, _, .lst h n a => .lst (by
      rcases h with (h | ⟨o, h⟩) | h
      · exact .inl (.inl (e _ _ h (fun _ z => by cases z)))
      · exact .inl (.inr ⟨o, e _ _ h (fun _ z => by cases z)⟩)
      · exact .inr h) n (DdAll.mono e a)
theorem DdAll.mono (e : ∀ b o, H b = some o → (∀ ps, o ≠ .tbl ps) → H' b = some o) : ∀ {vs : List V} {ds : List PyData}, DdAll K H vs ds → DdAll K H' vs ds
  | _, _, .nil => .nil
  | _, _, .cons a b => .cons (Dd.mono e a) (DdAll.mono e b)
end
end
section
variable {X : Cx} {pins : List (Addr × Obj)} {σ : L2.St} {H : Hp} {s : Shared}
theorem dd_app {a : Addr} {xs ys : List Addr} (h1 : a ∉ xs) (h2 : a ∉ ys) : a ∉ xs ++ ys := fun z => (List.mem_append.mp z).elim h1 h2
theorem reads_intsD {h : Heap} : ∀ {ns : List Int} {us : List Value}, Vals (ns.map V.int) us → ReadsAll h us (ns.map PyData.int) []
  | [], _, .nil => .nil
  | n :: ns, _, .cons r t => by
    obtain ⟨tk, rfl⟩ := r
    exact ReadsAll.cons (as := []) (bs := []) (.int n tk) (reads_intsD t)
mutual
theorem Dd.reads (I : Inv X pins σ H s) : ∀ (d : PyData) (v : V) (u : Value), Dd X.K H v d → RelV v u → ∃ as, Reads s.heap u d as ∧ sysModules ∉ as
  | .none, _, _, h, r => by
    cases h
    cases r
    exact ⟨_, Reads.none, List.not_mem_nil⟩
  | .bool b, _, _, h, r => by
    cases h
    cases r
    exact ⟨_, Reads.bool b, List.not_mem_nil⟩
  | .int i, _, _, h, r => by
    cases h
    obtain ⟨t, rfl⟩ := r
    exact ⟨_, Reads.int i t, List.not_mem_nil⟩
  | .str x, _, _, h, r => by
    cases h
    obtain ⟨t, rfl⟩ := r
    exact ⟨_, Reads.str x t, List.not_mem_nil⟩
  | .list ds, _, _, h, r => by
    cases h with
    | lst hs n ha =>
      cases r
      obtain ⟨its, rv, ⟨o, nn, ho, hc, _, hd⟩, _⟩ := I.list hs
      obtain ⟨as, hr, hn⟩ := Dd.readsAll I ds _ its ha rv
      refine ⟨_, Reads.list ho hc hd hr, fun z => ?_⟩
      rcases List.mem_cons.mp z with e | e
      · exact n e.symm
      · exact hn e
  | .tuple ds, _, _, h, r => by
    cases h with
    | tup hs ha =>
      cases r
      obtain ⟨its, rv, ⟨o, ho, hc, n, hd⟩, _⟩ := I.tuple hs
      obtain ⟨as, hr, hn⟩ := Dd.readsAll I ds _ its ha rv
      exact ⟨_, Reads.tuple ho hc hd hr, hn⟩
  | .dict kvs, _, _, h, r => by
    cases h with
    | dic hp =>
      rename_i p
      cases r
      obtain ⟨_, hsys, vs, kv, o, es, ep, ho, hx, hd, hk, hpr, hn⟩ := dk_of I.hok hp
      have e1 : vs = [] := by
        cases kv
        rfl
      subst e1
      have e2 : es.toList = [] := by
        generalize es.toList = l at hpr ⊢
        cases hpr
        rfl
      have rd : Reads s.heap (.ref p) (.dict []) (p :: [] ++ []) := by
        refine .dict ho hx.1 hd ?_ ?_
        · rw [e2]
          exact .nil
        · rw [e2]
          exact .nil
      refine ⟨_, rd, fun z => ?_⟩
      have e3 : sysModules = p := by simpa using z
      rw [← e3] at hsys
      exact absurd hsys (by simp)
    | dic1 hp ha =>
      rename_i p t i ns
      cases r
      obtain ⟨_, hsys, vs, kv, o, es, ep, ho, hx, hd, hk, hpr, hn⟩ := dk_of I.hok hp
      cases kv with
      | @cons _ q _ vs' r0 r1 =>
      cases r1
      obtain ⟨k1, u1⟩ := q
      obtain ⟨ek, ru⟩ := r0
      have ek : Sum.inl i = k1 := ek
      have ru : u1 = Value.ref t := ru
      subst ek ru
      obtain ⟨its, rv, ⟨o2, ho2, hc2, n2, hd2⟩, _⟩ := I.tuple ha
      have rt : Reads s.heap (.ref t) (.tuple (ns.map PyData.int)) [] := .tuple ho2 hc2 hd2 (by
        show ReadsAll s.heap its.toArray.toList _ _
        rw [List.toList_toArray]
        exact reads_intsD rv)
      generalize hel : es.toList = el at hpr
      cases hpr with
      | @cons e _ es' _ k1 k2 k3 =>
      cases k3
      obtain ⟨tk, ek2⟩ : ∃ tk, e.key = Value.int i tk := by
        rcases keyIs_shape (show keyIs (Sum.inl i) e.key = true from k1) with ⟨j, tj, e1, e2⟩ | ⟨x, tj, e1, e2⟩
        · cases e1
          exact ⟨tj, e2⟩
        · cases e1
      have rd : Reads s.heap (.ref p) (.dict [(.int i, .tuple (ns.map PyData.int))]) (p :: ([] ++ []) ++ ([] ++ [])) := by
        refine .dict ho hx.1 hd ?_ ?_
        · rw [hel]
          show ReadsAll s.heap [e.key] [PyData.int i] _
          rw [ek2]
          exact .cons (.int i tk) .nil
        · rw [hel]
          show ReadsAll s.heap [e.val] [PyData.tuple (ns.map PyData.int)] _
          rw [show e.val = Value.ref t from k2]
          exact .cons rt .nil
      refine ⟨_, rd, fun z => ?_⟩
      have e3 : sysModules = p := by simpa using z
      rw [← e3] at hsys
      exact absurd hsys (by simp)
theorem Dd.readsAll (I : Inv X pins σ H s) : ∀ (ds : List PyData) (vs : List V) (us : List Value), DdAll X.K H vs ds → Vals vs us → ∃ as, ReadsAll s.heap us ds as ∧ sysModules ∉ as
  | [], _, _, h, r => by
    cases h
    cases r
    exact ⟨_, ReadsAll.nil, List.not_mem_nil⟩
  | d :: ds, _, _, h, r => by
    cases h with
    | cons h1 h2 =>
      cases r with
      | cons r1 r2 =>
        obtain ⟨as, q1, n1⟩ := Dd.reads I d _ _ h1 r1
        obtain ⟨bs, q2, n2⟩ := Dd.readsAll I ds _ _ h2 r2
        exact ⟨_, ReadsAll.cons q1 q2, dd_app n1 n2⟩
end
end
/-- what may be shown: plain data, or data with empty dicts in it -/
def ShowD (K : PySem.W.Frag) (H : Hp) (v : V) (d : PyData) : Prop := (Dp K H v d ∧ Sh 60 80000 d) ∨ ∃ a, v = .ref a ∧ Dd K H v d ∧ d.showable = true ∧ d.depth ≤ 60 ∧ d.shown.length ≤ sizeLine
def rReprD2 (K : PySem.W.Frag) : List V → Hp → VK → Prop := fun xs H Q => ∃ v d, xs = [v] ∧ ShowD K H v d ∧ Q (.str d.shown) H
section
variable {X : Cx} (K : PySem.W.Frag)
theorem call_reprD2 (gd : X.A.guards = some []) (hu : X.A.units + 66 < cLine) (h : X.K = K := by rfl) : CallR X (.builtin "repr") (rReprD2 K) := by
  subst h
  intro pins s σ H xs us Q I r h
  obtain ⟨v, d, rfl, hv, q⟩ := h
  rcases hv with ⟨hD, hS⟩ | ⟨a, rfl, hz, hsh, hdp, hsz⟩
  · exact call_reprD gd hu pins s σ H _ us Q I r ⟨v, d, rfl, hD, hS, q⟩
  · obtain ⟨u, rfl, ru⟩ := vals1 r
    obtain ⟨as, rd, hn⟩ := Dd.reads I d _ _ hz ru
    obtain rfl : u = Value.ref a := ru
    refine repr_of_reads' rd hsh (fun _ => hn) gd (by omega) (fun _ _ e => e) (fun h' u tk hk => ?_) hsz
    exact ⟨.str _, H, I.kept hk, ⟨u, rfl⟩, q⟩
end
end Ef
set_option maxHeartbeats 4000000
namespace Ef
open PySem PySem.Spec PyProof.Rows L2 LamX NdefX
open PySem.W (dataLt rcLt_alike rcGt_alike)
/-! ### a lambda with parameters, as a value -/
/-- the object at f is the lambda F with this body -/
def LmO (f : Addr) (F : NF) (body : Expr) : HO := .ext fun h => ∃ (od : Option Addr) (sl : Array (Option Value)) (pm ctv : Value), h.get? f = some (⟨.type "function", od, .func (PySem.W.kla_fn "<lambda>" F.qual F.params body F.scope F.cl pm (.ref F.c) ctv), sl⟩ : Obj)
theorem lmO_at {P : Program} {w : World} {H : Hp} {h : Heap} {f : Addr} {F : NF} {body : Expr} (hok : HOk P w H h) (e : H f = some (LmO f F body)) : ∃ (od : Option Addr) (sl : Array (Option Value)) (pm ctv : Value), h.get? f = some (⟨.type "function", od, .func (PySem.W.kla_fn "<lambda>" F.qual F.params body F.scope F.cl pm (.ref F.c) ctv), sl⟩ : Obj) := by
  obtain ⟨z, _, _⟩ := hok f _ e
  exact z
section
variable {X : Cx} {pins : List (Addr × Obj)} {σ : L2.St} {H : Hp} {s : Shared}
theorem inv_lm {F : NF} {body : Expr} {o : Obj} {t' : Nat} {pm ctv : Value} (I : Inv X pins σ H s) (ho : o = { cls := .type "function", data := .func (PySem.W.kla_fn "<lambda>" F.qual F.params body F.scope F.cl pm (.ref F.c) ctv) }) :
    Inv X pins σ (upd H s.heap.objs.size (LmO s.heap.objs.size F body)) { s with heap := s.heap.push o, toks := t' } := by
  subst ho
  refine I.laid (a := s.heap.objs.size) (fun b u e => Heap.get?_push_of_some _ e) (Nat.le_refl _) ?_
  have e : (s.heap.push ({ cls := .type "function", data := .func (PySem.W.kla_fn "<lambda>" F.qual F.params body F.scope F.cl pm (.ref F.c) ctv) } : Obj)).get? s.heap.objs.size = some ({ cls := .type "function", data := .func (PySem.W.kla_fn "<lambda>" F.qual F.params body F.scope F.cl pm (.ref F.c) ctv) } : Obj) := Heap.get?_push_size _ rfl
  exact ⟨⟨_, _, pm, ctv, e⟩, ⟨_, e⟩, fun h1 h2 ⟨od, sl, p, t, z⟩ st => ⟨od, sl, p, t, st _ z⟩⟩
theorem lam_makeN {T : List NTab} {nm : Nat → Nat → Str} {c P : Addr} {params : Arguments} {body : Expr} {scope : Scope} {pos : Pos} {E : Value → Shared → Prop} {Q : Value → Shared → Prop} (I : Inv X pins σ H s) (TB : TabB X.base X.mg c P) (hcode : X.env.code = .ref c)
    (hm : (P, nm) ∈ T) (hn : nm pos.line pos.col = X.env.qual ++ "<lambda>") (hu : ∀ p ∈ T, p.1 = P → p.2 = nm) (hT : TabsN T H) (hdef : defaultsOf params X.env = ([], [])) (hfree : ∀ y ∈ scope.names, y.2 = .free → ∃ c, X.env.cells.lookup y.1 = some c)
    (h : ∀ (f c' : Addr) (H1 : Hp) (s' : Shared), Inv X pins σ H1 s' → ExtN H H1 → (∀ b, H1 b = Option.none → H b = Option.none) → TabsN T H1 → H f = none → H1 f = some (LmO f ⟨"<lambda>", X.env.qual ++ "<lambda>", params, [], scope, cloFrom X.env.cells scope.names [], c'⟩ body) → H1 c' = some (CodeO c' (X.env.qual ++ "<lambda>")) → Q (.ref f) s') :
    wpAny (model X.prog X.w) X.A (eval (.Lambda params body scope pos) X.env) Q E s := by
  obtain ⟨ps, hP, ht, ha⟩ := (show TabN H P nm from hT _ hm)
  refine PySem.W.kla_eval hdef ?_
  have bP : s.heap.BuiltinsAt X.mg P := TB.bm.keeps I.bk
  have hP' : s.heap.get? P = some { cls := .none, data := .fields ps } := I.hok P _ hP
  cases hc : codeAmong pos ps.toList with
  | none =>
    refine PySem.W.kla_makeFunction (mg := X.mg) (c := c) (P := P) (ps := ps) (closure_ok hfree) I.ok.glob (I.mod.glob.keeps I.bk) hcode (TB.code.keeps I.bk) hP' ht hc TB.gP bP fun c' ctv h' tk hx hge hlt hrec htb => ?_
    obtain ⟨c2, oc, vs, t, e2, hoc, hd, hv⟩ := hrec
    cases e2
    have nC : H c' = none := I.hok.fresh hge
    have I1 := inv_table (t' := tk) (more := #[rawInt pos.line, rawInt pos.col, .ref c']) (h' := h') I hP (fun b o hb e => hx b o hb e) htb hge ⟨oc, vs, t, hoc, hd, hv⟩
    have hE : ExtN H (upd (upd H P (.tbl (ps ++ #[rawInt pos.line, rawInt pos.col, .ref c']))) c' (CodeO c' (X.env.qual ++ "<lambda>"))) := fun b o e n => by
      rw [upd_ne (ne_of_none e nC), upd_ne (fun z => n ps (Option.some.inj (e.symm.trans (by rw [z]; exact hP))))]
      exact e
    have eL : (ps ++ #[rawInt pos.line, rawInt pos.col, .ref c']).toList = ps.toList ++ [rawInt pos.line, rawInt pos.col, .ref c'] := by simp
    have T1 : TabsN T (upd (upd H P (.tbl (ps ++ #[rawInt pos.line, rawInt pos.col, .ref c']))) c' (CodeO c' (X.env.qual ++ "<lambda>"))) := fun p hp => by
      by_cases hb : p.1 = P
      · rw [hu p hp hb, hb]
        refine ⟨_, by rw [upd_ne (ne_of_none hP nC), upd_same], by rw [eL]; exact PySem.TriplesOk_snoc _ _ _ _ ht, fun p' cv hcv => ?_⟩
        rw [eL] at hcv
        rcases among_app2 _ ht hcv with z | ⟨z, z1, z2⟩
        · obtain ⟨c0, e1, e2⟩ := ha p' cv z
          exact ⟨c0, e1, hE _ _ e2 codeO_ne⟩
        · refine ⟨c', z, ?_⟩
          rw [← z1, ← z2, hn]
          exact upd_same
      · obtain ⟨ps', a1, a2, a3⟩ := hT p hp
        refine ⟨ps', by rw [upd_ne (ne_of_none a1 nC), upd_ne hb]; exact a1, a2, fun p' cv hcv => ?_⟩
        obtain ⟨c0, e1, e2⟩ := a3 p' cv hcv
        exact ⟨c0, e1, hE _ _ e2 codeO_ne⟩
    have nF := I1.hok.fresh (Nat.le_refl _)
    have I2 := inv_lm (F := ⟨"<lambda>", X.env.qual ++ "<lambda>", params, [], scope, cloFrom X.env.cells scope.names [], c'⟩) (body := body) (t' := tk) (pm := (X.mg "__name__").getD .none) (ctv := ctv) I1 rfl
    refine h h'.objs.size c' _ _ I2 (fun b o e n => ?_) (fun b e => upd_none (upd_none (upd_none e))) (T1.ext fun b o e => ?_) (I.hok.fresh (Nat.le_trans hge (Nat.le_of_lt hlt))) upd_same ?_
    · have e1 := hE b o e n
      exact (upd_ne (ne_of_none e1 nF)).trans e1
    · exact (upd_ne (ne_of_none e nF)).trans e
    · exact (upd_ne (Nat.ne_of_lt hlt)).trans upd_same
  | some cv =>
    obtain ⟨c', e, hco⟩ := ha pos cv hc
    subst e
    rw [hn] at hco
    refine PySem.W.kla_makeFunctionHit (mg := X.mg) (c := c) (P := P) (ps := ps) (closure_ok hfree) I.ok.glob (I.mod.glob.keeps I.bk) hcode (TB.code.keeps I.bk) hP' ht hc bP fun ctv h' tk hx hsz => ?_
    have I1 : Inv X pins σ H { s with heap := h', toks := tk } := I.kept hx
    have nF : H h'.objs.size = none := I1.hok.fresh (Nat.le_refl _)
    have I2 := inv_lm (F := ⟨"<lambda>", X.env.qual ++ "<lambda>", params, [], scope, cloFrom X.env.cells scope.names [], c'⟩) (body := body) (t' := tk) (pm := (X.mg "__name__").getD .none) (ctv := ctv) I1 rfl
    refine h h'.objs.size c' _ _ I2 (fun b o e n => ?_) (fun b e => upd_none e) (hT.ext fun b o e => ?_) nF upd_same ?_
    · exact (upd_ne (ne_of_none e nF)).trans e
    · exact (upd_ne (ne_of_none e nF)).trans e
    · exact (upd_ne (ne_of_none hco nF)).trans hco
end
def tLamV (T : List NTab) (body : Expr) (mk : Addr → NF) : TE := fun σ H Q => TabsN T H ∧ ∀ (f c' : Addr) (H1 : Hp), ExtN H H1 → (∀ b, H1 b = Option.none → H b = Option.none) → TabsN T H1 → H f = none → H1 f = some (LmO f (mk c') body) → H1 c' = some (CodeO c' (mk c').qual) → Q (.ref f) H1
section
variable {X : Cx}
theorem pe_lamV {T : List NTab} {nm : Nat → Nat → Str} {c P : Addr} {params : Arguments} {body : Expr} {scope : Scope} {pos : Pos} (TB : TabB X.base X.mg c P) (hcode : X.env.code = .ref c) (hm : (P, nm) ∈ T) (hn : nm pos.line pos.col = X.env.qual ++ "<lambda>") (hu : ∀ p ∈ T, p.1 = P → p.2 = nm)
    (hfree : ∀ y ∈ scope.names, y.2 = .free → X.env.scope.names.lookup y.1 = some .cell ∨ X.env.scope.names.lookup y.1 = some .free) (hdef : defaultsOf params X.env = ([], []) := by rfl) :
    PE X (.Lambda params body scope pos) (tLamV T body fun c' => ⟨"<lambda>", X.env.qual ++ "<lambda>", params, [], scope, cloFrom X.env.cells scope.names [], c'⟩) := by
  refine ⟨fun pins s σ H Q I h => ?_⟩
  obtain ⟨hT, h⟩ := h
  refine lam_makeN I TB hcode hm hn hu hT hdef (fun y hy e => (hfree y hy e).elim (fun z => I.ok.has _ (.inl z)) fun z => I.ok.has _ (.inr z)) fun f c' H1 s' I1 eN nn T1 f0 f1 c1 => ?_
  exact ⟨.ref f, H1, I1, rfl, h f c' H1 eN nn T1 f0 f1 c1⟩
/-- the lambda is called -/
theorem lam_run {pins : List (Addr × Obj)} {σ : L2.St} {H : Hp} {s : Shared} {A : Around} {k : Nat} {N ps fr : List Str} {f : Addr} {F : NF} {body : Expr} {us : List Value} {vs : List V} {ws : List (Option V)} {tb : TE} {Q : VK} (S : NScope N ps fr F.scope) (hr : Room (k + 1) A) (e0 : Env0 X.prog X.w X.K X.mg X.base A X.stack s H)
    (hb : ∀ (pm ctv : Value) (us : List Value), us.length = ps.length → bindArgs (PySem.W.kla_fn "<lambda>" F.qual F.params body F.scope F.cl pm (.ref F.c) ctv) ⟨us, []⟩ = pure (ps.zip us)) (I : Inv X pins σ H s) (hf : H f = some (LmO f F body)) (hc : H F.c = some (CodeO F.c F.qual))
    (C : CellsAt F.cl fr ws s.heap H) (r : Vals vs us) (hl : vs.length = ps.length) (hbody : Room k (A.deeper (envF F f s.heap.objs.size)) → PE (ncx CX0 X.prog X.w X.K X.mg X.base N F f A X.stack s H fun _ _ _ => False) body tb) (q : tb (startF N vs ws) H Q) :
    wpAny (model X.prog X.w) A (call (.ref f) us) (EP X pins σ Q) (fun _ _ => False) s := by
  have lim : s.heap.NoLimit := I.nolimit
  obtain ⟨od, sl, pm, ctv, ho⟩ := lmO_at I.hok hf
  have rc : codeAny (model X.prog X.w) A (.call (.ref f) ⟨us, []⟩) (CR CX0 X.stack X.prog X.w H s Q fun _ _ _ => False) s := by
    refine PySem.W.kla_callFunE hr.depth ho rfl S.co S.gen rfl (codeO_at I.hok hc) ?_
    rw [hb pm ctv us (by rw [← r.length]; exact hl)]
    refine wpAny_pure (wpAny_newFunctionEnv S.nocell (fun ⟨n, _⟩ hy => S.par n (List.of_mem_zip hy).1) (fun h₁ hns hsb => ⟨lim.fresh _ hsb, ?_⟩) S.kind)
    show codeAny _ _ (.expr body (envF F f s.heap.objs.size)) _ _
    have kp : ∀ b o, s.heap.get? b = some o → h₁.get? b = some o := fun b o e => hsb.extBut b o (Nat.ne_of_lt (Heap.lt_size e)) (Heap.get?_push_of_some _ e)
    have J : Inv (ncx CX0 X.prog X.w X.K X.mg X.base N F f A X.stack s H fun _ _ _ => False) [] (startF N vs ws) H { s with heap := h₁, toks := s.toks + (ps.zip us).length } := inv_startN S hr.hd e0 hl r C hns kp
    refine PySem.W.kla_codeExpr (wpAny_mono ((hbody (hr.deeper _)).run [] _ _ H Q J q) (fun v s' hq => ?_) fun e s' hq => hq)
    obtain ⟨w', H', J', rv, q⟩ := hq
    exact ⟨w', H', J'.os, J'.bare, J'.base, J'.hok, rv, q⟩
  refine wpAny_call (codeAny_mono rc fun r s' hq => ?_)
  cases r with
  | error e => exact hq
  | ok fl =>
    cases fl with
    | ret u => exact I.after hq
    | next => exact False.elim hq
    | brk => exact False.elim hq
    | cont => exact False.elim hq
end
/-! ### a list or a tuple walked by a builtin -/
def ItAt (h : Heap) (lt : Bool) (I l : Addr) (i : Nat) : Prop := cond lt (h.IsListIter I l i) (h.IsTupleIter I l i)
def SqE (K : PySem.W.Frag) (H : Hp) (lt : Bool) (l : Addr) (xs : List V) : Prop := cond lt (SqL K H l xs) (SqT K H l xs)
theorem SqE.same {K : PySem.W.Frag} {H H' : Hp} {lt : Bool} {l : Addr} {xs : List V} (s : Same H H') (h : SqE K H lt l xs) : SqE K H' lt l xs := by
  cases lt with
  | true => exact Same.seq s h
  | false => exact Same.seqT s h
theorem sqE_of {K : PySem.W.Frag} {H : Hp} {l : Addr} {xs : List V} (h : SqL K H l xs ∨ SqT K H l xs) : ∃ lt, SqE K H lt l xs := h.elim (fun z => ⟨true, z⟩) fun z => ⟨false, z⟩
section
variable {X : Cx} {pins : List (Addr × Obj)} {σ : L2.St} {H : Hp} {s : Shared} {A : Around} {lt : Bool} {it l : Addr} {xs : List V} {i : Nat} {Q : Option Value → Shared → Prop} {E : Value → Shared → Prop}
theorem next_item (I : Inv X pins σ H s) (hh : A.handled = none) (hs : SqE X.K H lt l xs) (hit : ItAt s.heap lt it l i) {x : V} (hx : xs[i]? = some x)
    (q : ∀ v h' tk, RelV x v → ItAt h' lt it l (i + 1) → (∀ b o, b ∉ [it] → s.heap.get? b = some o → h'.get? b = some o) → Q (some v) { s with heap := h', toks := tk }) : wpAny (model X.prog X.w) A (pyNext (.ref it)) Q E s := by
  cases lt with
  | true =>
    obtain ⟨its, rv, hl, _⟩ := I.list hs
    obtain ⟨u, hu, ru⟩ := rv.get hx
    have ne : l ≠ it := fun z => by
      obtain ⟨o, e1, e2, _⟩ := hl.isList
      obtain ⟨o', e3, e4, _⟩ := id hit
      rw [z, e3] at e1
      cases e1
      rw [e4] at e2
      injection e2 with e2
      exact absurd e2 (by decide)
    have hi : i < its.toArray.size := by
      have := (List.getElem?_eq_some_iff.mp hu).1
      simpa using this
    refine (Walks.list hh it l ne its.toArray).item i s Q E hi ⟨hit, hl.isList⟩ fun v h' tk hP hst hk => ?_
    have hv : its[i]? = some v := by simpa using hP
    rw [hu] at hv
    cases hv
    exact q _ h' tk ru hst.1 hk
  | false =>
    obtain ⟨its, rv, hl, _⟩ := I.tuple hs
    obtain ⟨u, hu, ru⟩ := rv.get hx
    have ne : l ≠ it := fun z => by
      obtain ⟨o, e1, e2, _⟩ := id hl
      obtain ⟨o', e3, e4, _⟩ := id hit
      rw [z, e3] at e1
      cases e1
      rw [e4] at e2
      injection e2 with e2
      exact absurd e2 (by decide)
    have hi : i < its.toArray.size := by
      have := (List.getElem?_eq_some_iff.mp hu).1
      simpa using this
    refine (Walks.tuple hh it l ne its.toArray).item i s Q E hi ⟨hit, hl⟩ fun v h' tk hP hst hk => ?_
    have hv : its[i]? = some v := by simpa using hP
    rw [hu] at hv
    cases hv
    exact q _ h' tk ru hst.1 hk
theorem next_done (I : Inv X pins σ H s) (hh : A.handled = none) (hs : SqE X.K H lt l xs) (hit : ItAt s.heap lt it l xs.length)
    (q : ∀ h' tk, (∀ b o, b ∉ [it] → s.heap.get? b = some o → h'.get? b = some o) → Q none { s with heap := h', toks := tk }) : wpAny (model X.prog X.w) A (pyNext (.ref it)) Q E s := by
  cases lt with
  | true =>
    obtain ⟨its, rv, hl, _⟩ := I.list hs
    have ne : l ≠ it := fun z => by
      obtain ⟨o, e1, e2, _⟩ := hl.isList
      obtain ⟨o', e3, e4, _⟩ := id hit
      rw [z, e3] at e1
      cases e1
      rw [e4] at e2
      injection e2 with e2
      exact absurd e2 (by decide)
    have hi : xs.length = its.toArray.size := by
      rw [rv.length]
      simp
    rw [hi] at hit
    exact (Walks.list hh it l ne its.toArray).done s Q E ⟨hit, hl.isList⟩ fun h' tk hk => q h' tk hk
  | false =>
    obtain ⟨its, rv, hl, _⟩ := I.tuple hs
    have ne : l ≠ it := fun z => by
      obtain ⟨o, e1, e2, _⟩ := id hl
      obtain ⟨o', e3, e4, _⟩ := id hit
      rw [z, e3] at e1
      cases e1
      rw [e4] at e2
      injection e2 with e2
      exact absurd e2 (by decide)
    have hi : xs.length = its.toArray.size := by
      rw [rv.length]
      simp
    rw [hi] at hit
    exact (Walks.tuple hh it l ne its.toArray).done s Q E ⟨hit, hl⟩ fun h' tk hk => q h' tk hk
theorem iter_begin (I : Inv X pins σ H s) (hs : SqE X.K H lt l xs) {Q : Value → Shared → Prop} (q : ∀ o : Obj, (∀ v, o.data ≠ .cell v) → ItAt (s.heap.push o) lt s.heap.objs.size l 0 → Q (.ref s.heap.objs.size) { s with heap := s.heap.push o }) : wpAny (model X.prog X.w) A (pyIter (.ref l)) Q E s := by
  cases lt with
  | true =>
    obtain ⟨its, rv, hl, _⟩ := I.list hs
    exact wpAny_pyIter_list hl.isList (q _ (fun v z => by cases z) ⟨_, Heap.get?_push_size _ rfl, rfl, rfl⟩)
  | false =>
    obtain ⟨its, rv, hl, _⟩ := I.tuple hs
    exact wpAny_pyIter_tuple hl (q _ (fun v z => by cases z) ⟨_, Heap.get?_push_size _ rfl, rfl, rfl⟩)
end
end Ef
set_option maxHeartbeats 4000000
namespace Ef
open PySem PySem.Spec PyProof.Rows L2
/-! ### a list comprehension whose element may look at the def's own state -/
section
variable {X : Cx} {pins : List (Addr × Obj)} {σ : L2.St} {H : Hp} {s : Shared}
/-- [elt for target in iter if ..], the def's state is known to the element -/
theorem lc_coreI {Q : VK} {elt tg iter : Expr} {ifs : List Expr} {scope : Scope} {own : List (Str × Nat)} {pos pos' : Pos} {wi : TI} {g : TG} {tt : TT} {te : TE} {Qf : Value → Shared → Prop}
    (hc : X.calm = true) (hN : X.N.Nodup) (I : L2.Inv X pins σ H s) (hi : PI X tg iter wi) (ok : BlkOk X.N X.env.scope scope own)
    (hg : ∀ (s : Shared) (H : Hp) (C : Addr) (cl : List (Str × Addr)) (fp : List Addr), PG (X.blk s H scope (compEnvC scope cl C X.env) fp) tg g) (ht : ∀ (s : Shared) (H : Hp) (C : Addr) (cl : List (Str × Addr)) (fp : List Addr), PTs (X.blk s H scope (compEnvC scope cl C X.env) fp) ifs tt)
    (he : ∀ (s : Shared) (H : Hp) (C : Addr) (cl : List (Str × Addr)) (fp : List Addr), (∃ pins, L2.Inv X pins σ H s ∧ ∀ b ∈ fp, FpOk X pins H b) → PE (X.blk s H scope (compEnvC scope cl C X.env) fp) elt te) (hs : ∀ x, foldedSetIterable iter X.env x = pure x)
    (h : tLc wi g tt te (own.map (·.2)) σ H Q)
    (hRR : ∀ D C s' m H', L2.Inv X pins σ H' s' → Q (.ref D) H' → s'.heap.Ns C m → FpOk X pins H' C → compPostF (model X.prog X.w) X.A X.xe Qf (.ref D) C X.env.frame (.ok .next) s') :
    wpAny (model X.prog X.w) X.A (comprehension (.ListComp elt [⟨tg, iter, ifs, 0⟩] scope pos) scope X.env pos' (newList []) false (eval iter X.env) none) Qf X.xe s := by
  have hfree : ∀ y ∈ scope.names, y.2 = .free → ∃ c, X.env.cells.lookup y.1 = some c := fun y hy e => by
    rcases ok.free y hy e with k | k
    · exact I.ok.has _ (.inl k)
    · exact I.ok.has _ (.inr k)
  refine comprehension_freeF rfl hs (closure_ok hfree) ok.kind (fun y hy e => by rw [ok.uniq y hy, e])
    (thn (hi.run pins s σ H _ I h) fun xv s1 hx => thn hx fun itv s2 h2 => ?_)
  obtain ⟨it, fp, tn, J, H2, e, I2, T, st2, f2, q⟩ := h2
  subst e
  refine wpAny_newObj_type (newEnv_comp ?_) (by show 0 ≤ sizeLine; decide)
  generalize hD : s2.heap.objs.size = D
  have hDn : H2 D = none := I2.hok.fresh (Nat.le_of_eq hD)
  obtain ⟨Wt, ⟨m0, w0⟩, turn⟩ := q D hDn
  generalize hs3 : ({ s2 with heap := s2.heap.push { cls := .type "list", data := .seq ([] : List Value).toArray } } : Shared) = s3
  have I3 : L2.Inv X pins σ (upd H2 D (.lst [])) s3 := by
    rw [← hs3]
    refine I2.laid (t' := s2.toks) (fun b o e => Heap.get?_push_of_some _ e) (Nat.le_of_eq hD) ⟨Nat.zero_le _, [], 0, .nil, ?_⟩
    rw [← hD]
    exact Heap.get?_push_size _ rfl
  have h3 : s3.heap = s2.heap.push { cls := .type "list", data := .seq ([] : List Value).toArray } := by rw [← hs3]
  have sz : ∀ b ∈ fp, b < s2.heap.objs.size := fun b hb => by
    obtain ⟨o, e, _⟩ := T.obj _ _ st2 b hb
    exact Heap.lt_size e
  have f3 : ∀ b ∈ fp, FpOk X pins (upd H2 D (.lst [])) b ∧ b < s3.heap.objs.size := fun b hb => by
    have hlt := sz b hb
    refine ⟨⟨?_, (f2 b hb).2⟩, by rw [h3, Heap.size_push]; exact Nat.lt_succ_of_lt hlt⟩
    rw [upd_ne (by rw [← hD]; exact Nat.ne_of_lt hlt)]
    exact (f2 b hb).1
  have st3 : tn 0 s3.heap := T.keep _ _ _ st2 fun b _ o e => by rw [h3]; exact Heap.get?_push_of_some _ e
  have I4 := block_start I3 ok hN f3
  have pg := hg s3 (upd H2 D (.lst [])) s3.heap.objs.size (cellsFrom (s3.heap.objs.size + 1) scope.names (cloFrom X.env.cells scope.names [])) fp
  have pt := ht s3 (upd H2 D (.lst [])) s3.heap.objs.size (cellsFrom (s3.heap.objs.size + 1) scope.names (cloFrom X.env.cells scope.names [])) fp
  have pe := he s3 (upd H2 D (.lst [])) s3.heap.objs.size (cellsFrom (s3.heap.objs.size + 1) scope.names (cloFrom X.env.cells scope.names [])) fp ⟨pins, I3, fun b hb => (f3 b hb).1⟩
  show codeAny _ _ (.compStart (.ListComp elt [⟨tg, iter, ifs, 0⟩] scope pos) 0 (.ref it) (.ref D) (compEnvC scope (cellsFrom (s3.heap.objs.size + 1) scope.names (cloFrom X.env.cells scope.names [])) s3.heap.objs.size X.env)) (compPostF (model X.prog X.w) X.A X.xe Qf (.ref D) s3.heap.objs.size X.env.frame) { s3 with heap := pushCells (s3.heap.push { cls := .type "dict", data := .dict #[] }) scope.names }
  have nfp : ∀ b ∈ fp, (upd H2 D (.lst [])) b = none := fun b hb => (f3 b hb).1.1
  generalize hce : compEnvC scope (cellsFrom (s3.heap.objs.size + 1) scope.names (cloFrom X.env.cells scope.names [])) s3.heap.objs.size X.env = ce at I4 pg pt pe ⊢
  have cL : ce.locals = s3.heap.objs.size := by subst hce; rfl
  have cF : ce.frame = X.env.frame := by subst hce; rfl
  generalize hH3 : upd H2 D (.lst []) = H3 at I3 I4 pg pt pe w0 nfp f3
  generalize hs4 : ({ s3 with heap := pushCells (s3.heap.push { cls := .type "dict", data := .dict #[] }) scope.names } : Shared) = s4 at I4 ⊢
  have st4 : tn 0 s4.heap := T.keep _ _ _ st3 fun b _ o e => by rw [← hs4]; exact pushCells_keeps _ _ _ _ (Heap.get?_push_of_some _ e)
  have stat : ∀ {σ' : L2.St} {H' : Hp} {s' : Shared}, L2.Inv (X.blk s3 H3 scope ce fp) [] σ' H' s' → (∀ b ∈ fp, H' b = none) → ∀ b ∈ fp, FpOk (X.blk s3 H3 scope ce fp) [] H' b := fun {σ' H' s'} I' hn b hb =>
    ⟨hn b hb, (I'.ok.exf b hb).1, I'.ok.exfs b hb, .inl hb, fun x c e => (I'.ok.exf b hb).2 x c e, fun p hp => absurd (show p ∈ ([] : List (Addr × Obj)) ++ [] from hp) (by simp)⟩
  have loop : codeAny (model X.prog X.w) X.A (.compLoop (.ListComp elt [⟨tg, iter, ifs, 0⟩] scope pos) 0 (.ref it) (.ref D) ce) (compPostF (model X.prog X.w) X.A X.xe Qf (.ref D) s3.heap.objs.size X.env.frame) s4 := by
    refine compLoop_any (fun n s' => ∃ i H', L2.Inv (X.blk s3 H3 scope ce fp) [] (wipe σ (own.map (·.2))) H' s' ∧ tn i s'.heap ∧ (∀ b ∈ fp, H' b = none) ∧ Wt i n H') ?_ m0 ⟨0, H3, I4, st4, nfp, w0⟩
    rintro n s5 ⟨i, H5, I5, st5, n5, w5⟩
    rcases turn i n H5 w5 with ⟨stop, qq⟩ | ⟨go, Nx, hNx, step⟩
    · have td := T.done (X.blk s3 H3 scope ce fp) rfl rfl rfl hc i [] s5 _ H5 (fun _ _ => False) I5 (stat I5 n5) st5 stop
      refine thnF td fun r s6 ⟨hr, I6⟩ => ?_
      subst hr
      have I7 : L2.Inv X pins σ H5 s6 := I3.call' (ch := fp) I6.os I6.base I6.hok I6.bare fun b hb => ⟨(f3 b hb).1.2.2.2.1, (f3 b hb).1.2.1, (f3 b hb).1.2.2.2.2.1, (f3 b hb).1.2.2.2.2.2⟩
      have nC : H5 s3.heap.objs.size = none := by
        have z : H5 ce.locals = none := I6.free
        rw [cL] at z
        exact z
      obtain ⟨m, hn, _⟩ := I6.loc
      have hn : s6.heap.Ns ce.locals m := hn
      rw [cL] at hn
      exact hRR D s3.heap.objs.size s6 m H5 I7 qq hn (I3.fpOk (Nat.le_refl _) nC)
    · have ti := T.item (X.blk s3 H3 scope ce fp) rfl rfl rfl hc i [] s5 _ H5 (fun _ _ => False) I5 (stat I5 n5) st5 go
      refine thnF ti fun r s6 ⟨u, hr, h6⟩ => ?_
      subst hr
      refine thnF h6 fun _ s7 ⟨x, H7, I7, r7, y7, st7, n7⟩ => ?_
      have I7' := I7.pinned (stat I7 n7) (T.obj _ _ st7)
      refine thnF (pg.run _ s7 _ H7 x u _ I7' r7 (step x H7 y7)) fun _ s8 ⟨σ8, H8, I8, hw8, q8⟩ => ?_
      refine thnF (pt.run _ s8 σ8 H8 _ I8 q8) fun b s9 ⟨H9, I9, q9⟩ => ?_
      have fin : ∀ {s' : Shared} {H' : Hp}, L2.Inv (X.blk s3 H3 scope ce fp) ([] ++ pinsAt fp s7.heap) σ8 H' s' → Nx H' → ∃ m, m < n ∧ ∃ i H', L2.Inv (X.blk s3 H3 scope ce fp) [] (wipe σ (own.map (·.2))) H' s' ∧ tn i s'.heap ∧ (∀ b ∈ fp, H' b = none) ∧ Wt i m H' := fun {s' H'} I' nx => by
        obtain ⟨m', hm, w'⟩ := hNx H' nx
        have pin' : ∀ b ∈ fp, ∀ o, s7.heap.get? b = some o → s'.heap.get? b = some o ∧ H' b = none := fun b hb o e =>
          let z := I'.pin (b, o) (List.mem_append_right _ (List.mem_append_right _ (mem_pinsAt hb e)))
          ⟨z.1, z.2.1⟩
        have hl : (wipe σ (own.map (·.2))).length = σ8.length := by rw [← hw8, wipe_length]
        refine ⟨m', hm, i + 1, H', (I'.unpinned (pins := [])).weak hl (fun j v e => ?_), T.keep _ _ _ st7 fun b hb o e => (pin' b hb o e).1, fun b hb => ?_, w'⟩
        · rw [← hw8] at e
          exact (wipe_some e).1
        · obtain ⟨o, e, _⟩ := T.obj _ _ st7 b hb
          exact (pin' b hb o e).2
      cases b with
      | false =>
        simp only [Bool.false_eq_true, if_false] at q9 ⊢
        exact fin I9 q9
      | true =>
        simp only [if_true] at q9 ⊢
        refine wpAny_mono (pe.run _ s9 σ8 H9 _ I9 q9) (fun z s10 ⟨yv, H10, I10, r10, acc, hD10, hz10, nx⟩ => ?_) fun e s10 hx => (show False from hx).elim
        exact app_ok (X := X.blk s3 H3 scope ce fp) I10 hD10 hz10 r10 fun s11 I11 => fin I11 nx
  exact codeAny_compStart_list loop (T.self X.A 0 _ _ _ st4 loop)
end
section
variable {X : Cx}
def tLcI (wi : TI) (g : TG) (tt : TT) (te : L2.St → TE) (own : List Nat) : TE := fun σ H Q => tLc wi g tt (te σ) own σ H Q
theorem pe_lcI {elt tg iter : Expr} {ifs : List Expr} {scope : Scope} {own : List (Str × Nat)} {pos : Pos} {wi : TI} {g : TG} {tt : TT} {te : L2.St → TE}
    (hc : X.calm = true) (hN : X.N.Nodup) (hi : PI X tg iter wi) (ok : BlkOk X.N X.env.scope scope own)
    (hg : ∀ (s : Shared) (H : Hp) (C : Addr) (cl : List (Str × Addr)) (fp : List Addr), PG (X.blk s H scope (compEnvC scope cl C X.env) fp) tg g) (ht : ∀ (s : Shared) (H : Hp) (C : Addr) (cl : List (Str × Addr)) (fp : List Addr), PTs (X.blk s H scope (compEnvC scope cl C X.env) fp) ifs tt)
    (he : ∀ (σ : L2.St) (s : Shared) (H : Hp) (C : Addr) (cl : List (Str × Addr)) (fp : List Addr), (∃ pins, L2.Inv X pins σ H s ∧ ∀ b ∈ fp, FpOk X pins H b) → PE (X.blk s H scope (compEnvC scope cl C X.env) fp) elt (te σ)) (hs : ∀ x, foldedSetIterable iter X.env x = pure x := by intro _; rfl) :
    PE X (.ListComp elt [⟨tg, iter, ifs, 0⟩] scope pos) (tLcI wi g tt te (own.map (·.2))) := by
  refine ⟨fun pins s σ H Q I h => ?_⟩
  rw [eval_ListComp]
  refine lc_coreI hc hN I hi ok hg ht (he σ) hs h fun D C s' m H' I' q hn f => ⟨m, hn, fun h'' sb => ?_⟩
  obtain ⟨f0, f1, f2, f3, f4, f5⟩ := f
  exact ⟨.ref D, H', I'.turned (t' := s'.toks) (fun b o hb e => (sb.2 b hb).trans e) f0 f1 f3 f4 f5, rfl, q⟩
end
end Ef
set_option maxHeartbeats 4000000
namespace Ef
open PySem PySem.Spec PyProof.Rows L2 LamX NdefX
/-! ### lambdas without parameter that are kept, and called by a def that gets one -/
def tabsN1 (T : List (Addr × Str)) : List NTab := T.map fun p => (p.1, fun _ _ => p.2)
theorem tabsN1_of {T : List (Addr × Str)} {H : Hp} (h : Tabs T H) : TabsN (tabsN1 T) H := fun p hp => by
  obtain ⟨q, hq, rfl⟩ := List.mem_map.mp hp
  exact h q hq
theorem tabsN1_to {T : List (Addr × Str)} {H : Hp} (h : TabsN (tabsN1 T) H) : Tabs T H := fun p hp => h _ (List.mem_map.mpr ⟨p, hp, rfl⟩)
/-- the lambda of the def at hand, made at c' -/
def lamN (X : Cx) (params : Arguments) (scope : Scope) (c' : Addr) : NF := ⟨"<lambda>", X.env.qual ++ "<lambda>", params, [], scope, cloFrom X.env.cells scope.names [], c'⟩
def tLamT (T : List (Addr × Str)) (body : Expr) (mk : Addr → NF) : TE := fun σ H Q => Tabs T H ∧ ∀ (f c' : Addr) (H1 : Hp), ExtN H H1 → (∀ b, H1 b = Option.none → H b = Option.none) → Tabs T H1 → H f = none → H1 f = some (LmO f (mk c') body) → H1 c' = some (CodeO c' (mk c').qual) → Q (.ref f) H1
section
variable {X : Cx}
theorem pe_lamT {T : List (Addr × Str)} {c P : Addr} {params : Arguments} {body : Expr} {scope : Scope} {pos : Pos} (TB : TabB X.base X.mg c P) (hcode : X.env.code = .ref c) (hmT : (P, X.env.qual ++ "<lambda>") ∈ T) (hu : ∀ p ∈ T, p.1 = P → p.2 = X.env.qual ++ "<lambda>")
    (L : LamS X.env.scope scope) (hdef : defaultsOf params X.env = ([], []) := by rfl) :
    PE X (.Lambda params body scope pos) (tLamT T body (lamN X params scope)) := by
  refine ⟨fun pins s σ H Q I h => ?_⟩
  obtain ⟨hT, h⟩ := h
  refine lam_makeN (T := tabsN1 T) (nm := fun _ _ => X.env.qual ++ "<lambda>") I TB hcode (List.mem_map.mpr ⟨_, hmT, rfl⟩) rfl (fun p hp e => ?_) (tabsN1_of hT) hdef (fun y hy e => (L.free y hy e).elim (fun z => I.ok.has _ (.inl z)) fun z => I.ok.has _ (.inr z)) fun f c' H1 s' I1 eN nn T1 f0 f1 c1 => ?_
  · obtain ⟨q, hq, rfl⟩ := List.mem_map.mp hp
    have := hu q hq e
    funext a b
    exact this
  · exact ⟨.ref f, H1, I1, rfl, h f c' H1 eN nn (tabsN1_to T1) f0 f1 c1⟩
end
section
variable {X : Cx} {pins : List (Addr × Obj)} {σ : L2.St} {H : Hp} {s : Shared}
/-- some free places left out of sight -/
theorem inv_drop (I : Inv X pins σ H s) : ∀ fp : List Addr, (∀ b ∈ fp, FpOk X pins H b) → ∃ hI : Heap, (∀ b, b ∉ fp → hI.get? b = s.heap.get? b) ∧ (∀ b ∈ fp, hI.get? b = none) ∧ Inv X pins σ H { s with heap := hI }
  | [], _ => ⟨s.heap, fun _ _ => rfl, fun b h => absurd h List.not_mem_nil, I⟩
  | c :: fp, h => by
    obtain ⟨h1, a1, a2, I1⟩ := inv_drop I fp fun b hb => h b (List.mem_cons_of_mem _ hb)
    obtain ⟨hI, g1, g2⟩ := restrict h1 fun b => decide (b ≠ c)
    obtain ⟨f0, f1, f2, f3, f4, f5⟩ := h c List.mem_cons_self
    refine ⟨hI, fun b hb => ?_, fun b hb => ?_, I1.turned (t' := s.toks) (fun b o hb e => (g1 b (decide_eq_true hb)).trans e) f0 f1 f3 f4 f5⟩
    · rw [g1 b (decide_eq_true fun e => hb (by rw [e]; exact List.mem_cons_self))]
      exact a1 b fun z => hb (List.mem_cons_of_mem _ z)
    · by_cases e : b = c
      · exact g2 b (decide_eq_false fun z => z e)
      · rw [g1 b (decide_eq_true e)]
        exact a2 b ((List.mem_cons.mp hb).resolve_left e)
theorem un_drop {fs fp : List Addr} {H0 H1 H2 : Hp} {h0 hI h1 h2 : Heap} (U1 : Un fs fp H0 H1 h0 h1) (U2 : Un fs [] H1 H2 h1 h2) (a1 : ∀ b, b ∉ fp → hI.get? b = h0.get? b) (a2 : ∀ b ∈ fp, hI.get? b = none) : Un fs [] H0 H2 hI h2 := by
  have off : ∀ {b o}, hI.get? b = some o → b ∉ fp ∧ h0.get? b = some o := fun {b o} e => by
    have n : b ∉ fp := fun z => by
      rw [a2 b z] at e
      cases e
    exact ⟨n, (a1 b n).symm.trans e⟩
  have no : ∀ b : Addr, b ∉ ([] : List Addr) := fun b => List.not_mem_nil
  refine ⟨fun b o e hn hf _ => ?_, fun b o e hn hf _ => ?_, fun b o e hn _ => ?_, fun b o e _ => ?_, fun b xs e => U2.tups b xs (U1.tups b xs e), fun b o u e => U2.frzs b o u (U1.frzs b o u e), fun b ps e => ?_⟩
  · obtain ⟨n, e0⟩ := off e
    exact U2.keep b o (U1.keep b o e0 hn hf n) (U1.free b o e0 hn n) hf (no b)
  · obtain ⟨n, e0⟩ := off e
    obtain ⟨sl, e1⟩ := U1.slot b o e0 hn hf n
    obtain ⟨sl2, e2⟩ := U2.slot b _ e1 (U1.free b o e0 hn n) hf (no b)
    exact ⟨sl2, e2⟩
  · obtain ⟨n, e0⟩ := off e
    obtain ⟨o1, e1⟩ := U1.there b o e0 n
    exact U2.free b o1 e1 (U1.free b o e0 hn n) (no b)
  · obtain ⟨n, e0⟩ := off e
    obtain ⟨o1, e1⟩ := U1.there b o e0 n
    exact U2.there b o1 e1 (no b)
  · obtain ⟨m1, e1⟩ := U1.tbls b ps e
    obtain ⟨m2, e2⟩ := U2.tbls b _ e1
    exact ⟨m1 ++ m2, by rw [← Array.append_assoc]; exact e2⟩
/-- x(), in the def that got the lambda: s0 is a state of the def that made it -/
theorem pe_actV {CXg : CXT} {Eg : XK} {Ng : List Str} {qg : Str} {sg : Scope} {g f c' : Addr} {cdg : Value} {params : Arguments} {body : Expr} {scope : Scope} {k i : Nat} {a : Str} {pn : List (Addr × Obj)} {xe : Value → Shared → Prop} {W : WX} {E : XK} {tb : TE} {p1 p2 : Pos} {fp : List Addr} {s1 : Shared} {H1 : Hp}
    (I : Inv X pins σ H s) (hfp : ∀ b ∈ fp, FpOk X pins H b) (U : Un (frs X.stack) fp H H1 s.heap s1.heap) (L : LamS X.env.scope scope)
    (hbind : ∀ (pm cv ctv : Value), bindArgs (PySem.W.kla_fn "<lambda>" (X.env.qual ++ "<lambda>") params body scope (cloFrom X.env.cells scope.names []) pm cv ctv) ⟨[], []⟩ = pure [])
    (tk : Takes ((cxOf CXg X.prog X.w X.K X.mg X.base Ng qg sg g cdg X.A X.stack s1 H1 Eg).tr pn xe) W) (hW : ∀ cls d σ' H', E cls d H' → W cls d σ' H') (hr : Room (k + 1) (X.A.deeper (envOfC qg sg s1.heap.objs.size g cdg)))
    (hbody : ∀ (A : Around) (outer : List Env) (s : Shared) (H : Hp), Room k (A.deeper (lamEnv X scope s.heap.objs.size f c')) → PE (lamCx X A outer s H E scope f c') body tb)
    (hN : Ng[i]? = some a) (hv : Vis sg a) (hd : (a == ("__debug__" : Str)) = false := by decide) (hcd : (a == ("__classdict__" : Str)) = false := by decide) :
    PE ((cxOf CXg X.prog X.w X.K X.mg X.base Ng qg sg g cdg X.A X.stack s1 H1 Eg).tr pn xe) (.Call (.Name a p1) [] [] p2)
      (fun σZ HZ Q => σZ[i]? = some (some (.ref f)) ∧ HZ c' = some (CodeO c' (X.env.qual ++ "<lambda>")) ∧ (HZ f = some (LmO f (lamN X params scope c') body) ∧ tb σ HZ Q)) := by
  refine ⟨fun pinsZ sZ σZ HZ Q IZ h => ?_⟩
  obtain ⟨hs, hc, hf, ht⟩ := h
  refine wpAny_Call_Name_kw (thn ((pe_var (pos := p1) (i := i) hN hv hd hcd).run pinsZ sZ σZ HZ (fun v H1 => v = .ref f ∧ H1 = HZ) IZ ⟨.ref f, hs, rfl, rfl⟩) fun u s2 ⟨v, H2, I2, r1, q1⟩ => ?_)
  obtain ⟨ev, eH⟩ := q1
  subst ev
  rw [eH] at I2
  obtain rfl : u = Value.ref f := r1
  obtain ⟨od, sl, pm, ctv, of1⟩ := lmO_at I2.hok hf
  have of1 : s2.heap.get? f = some (⟨.type "function", od, .func (PySem.W.kla_fn "<lambda>" (X.env.qual ++ "<lambda>") params body scope (cloFrom X.env.cells scope.names []) pm (.ref c') ctv), sl⟩ : Obj) := of1
  refine PySem.W.callWith_F0 ⟨_, _, _, _, of1⟩ ?_
  obtain ⟨hI, a1, a2, ID⟩ := inv_drop I fp hfp
  have un : Un (frs X.stack) [] H HZ hI s2.heap := un_drop U I2.base a1 a2
  obtain ⟨⟨oc, vs, t, hoc, hdc, hvc⟩, _, _⟩ := I2.hok c' _ hc
  have rc : codeAny (model X.prog X.w) (X.A.deeper (envOfC qg sg s1.heap.objs.size g cdg)) (.call (.ref f) ⟨[], []⟩) (CR (L2.CX X.prog X.w) (envOfC qg sg s1.heap.objs.size g cdg :: X.stack) X.prog X.w HZ s2 Q E) s2 := by
    refine PySem.W.kla_callFunE hr.depth of1 rfl L.co L.gen rfl ⟨c', oc, vs, t, rfl, hoc, hdc, hvc⟩ ?_
    rw [hbind]
    refine wpAny_pure (wpAny_newFunctionEnv (fun y hy => (L.own y hy).2) (fun y hy => absurd hy (by simp)) (fun h₁ hns hsb => ⟨I2.nolimit.fresh _ hsb, ?_⟩) L.kind)
    show codeAny _ _ (.expr body (lamEnv X scope s2.heap.objs.size f c')) _ _
    have kp : ∀ b o, s2.heap.get? b = some o → h₁.get? b = some o := fun b o e => hsb.extBut b o (Nat.ne_of_lt (Heap.lt_size e)) (Heap.get?_push_of_some _ e)
    have J : Inv (lamCx X (X.A.deeper (envOfC qg sg s1.heap.objs.size g cdg)) (envOfC qg sg s1.heap.objs.size g cdg :: X.stack) s2 HZ E scope f c') [] σ HZ { s2 with heap := h₁, toks := s2.toks + ([] : List (Str × Value)).length } :=
      lam_start2 ID L I2.env0 hr.hd un hns kp
    refine PySem.W.kla_codeExpr (wpAny_mono ((hbody _ _ s2 HZ (hr.deeper _)).run [] _ _ HZ Q J ht) (fun v s' hq => ?_) fun e s' hq => hq)
    obtain ⟨w', H', J', rv, q⟩ := hq
    exact ⟨w', H', J'.os, J'.bare, J'.base, J'.hok, rv, q⟩
  have hx : Passes (L2.CX X.prog X.w) ((cxOf CXg X.prog X.w X.K X.mg X.base Ng qg sg g cdg X.A X.stack s1 H1 Eg).tr pn xe) E := passes_call tk hW
  refine wpAny_call (codeAny_mono rc fun r s' hq => ?_)
  cases r with
  | error e => exact hx pinsZ σZ HZ s2 e s' I2 hq
  | ok fl =>
    cases fl with
    | ret u => exact I2.after hq
    | next => exact False.elim hq
    | brk => exact False.elim hq
    | cont => exact False.elim hq
end
/-- what is known of a lambda's body, wherever it is called -/
def LamOk (X : Cx) (k : Nat) (params : Arguments) (body : Expr) (scope : Scope) (t : XK → TE) : Prop :=
  LamS X.env.scope scope ∧ (∀ (q : Str) (cl : List (Str × Addr)) (pm cv ctv : Value), bindArgs (PySem.W.kla_fn "<lambda>" q params body scope cl pm cv ctv) ⟨[], []⟩ = pure []) ∧
    ∀ (A : Around) (outer : List Env) (s : Shared) (H : Hp) (E : XK) (f c' : Addr), Room k (A.deeper (lamEnv X scope s.heap.objs.size f c')) → PE (lamCx X A outer s H E scope f c') body (t E)
/-- the def called, in a comprehension, with a lambda that stands in a name; σ0: the state of the def that made it -/
def tLamC (X : Cx) (k i : Nat) (TT : (XK → Hp → VK → Prop) → Hp → VK → Prop) (σ0 : L2.St) : TE := fun σ H Q => ∃ (f c' : Addr) (params : Arguments) (body : Expr) (scope : Scope) (t : XK → TE), σ[i]? = some (some (.ref f)) ∧ LamOk X k params body scope t ∧ H f = some (LmO f (lamN X params scope c') body) ∧ H c' = some (CodeO c' (X.env.qual ++ "<lambda>")) ∧
  TT (fun E H' Q' => H' f = some (LmO f (lamN X params scope c') body) ∧ t E σ0 H' Q') H Q
section
variable {X : Cx}
theorem pe_lamC {TT : (XK → Hp → VK → Prop) → Hp → VK → Prop} {x a v : Str} {g : Addr} {k i : Nat} {st : Stmt} {fd : FuncData} {Ng : List Str} {p p2 pos : Pos} {σ0 : L2.St} {s0 : Shared} {H0 : Hp} {scB : Scope} {ce : Env} {fp : List Addr}
    (hI : ∃ pins, L2.Inv X pins σ0 H0 s0 ∧ ∀ b ∈ fp, FpOk X pins H0 b) (F : Fun X.K x x st g fd) (hg : Gl (X.blk s0 H0 scB ce fp) x) (hm : X.mg x = some (.ref g)) (hb : L2.Binds X.K fd [a] []) (Sg : FnScope Ng [a] (defScope st)) (hNg : Ng[0]? = some a) (hva : Vis (defScope st) a)
    (hG : ∀ cdg, GivesTo (X.blk s0 H0 scB ce fp) Ng x (defScope st) g cdg (defBody st) a (X.env.qual ++ "<lambda>") TT) (hr : Room (k + 2) X.A)
    (hN : X.N[i]? = some v) (hv : Vis ce.scope v) (hd1 : (v == ("__debug__" : Str)) = false := by decide) (hcd1 : (v == ("__classdict__" : Str)) = false := by decide)
    (hdb : (x == ("__debug__" : Str)) = false := by decide) (hd : (a == ("__debug__" : Str)) = false := by decide) (hcd : (a == ("__classdict__" : Str)) = false := by decide) :
    PE (X.blk s0 H0 scB ce fp) (.Call (.Name x p) [.Name v p2] [] pos) (tLamC X k i TT σ0) := by
  obtain ⟨oc, od, kV, doc, pm, an, cdv, ct, osl, rfl, lk, hcg⟩ := F.ex
  obtain ⟨pins0, I0, hfp⟩ := hI
  refine ⟨fun pins s σ H Q I h => ?_⟩
  obtain ⟨f, c', params, body, scope, t, hs, ⟨L, hbind, hbody⟩, hf, hco, h⟩ := h
  refine wpAny_Call_Name_kw (ld_glob I hg hm ?_ hdb)
  refine PySem.W.callWith_K (h₀ := X.base) I.ok.mod.kin F.kp ?_ (by rfl) (by rfl)
  show wpAny _ _ (spliced ((false, eval (.Name v p2) (X.blk s0 H0 scB ce fp).env) :: backTo pos (starEach [] (X.blk s0 H0 scB ce fp).env))) _ _ s
  refine Calls.spliced_cons (thn ((pe_var (X := X.blk s0 H0 scB ce fp) (pos := p2) (i := i) hN hv hd1 hcd1).run pins s σ H (fun u H1 => u = .ref f ∧ H1 = H) I ⟨.ref f, hs, rfl, rfl⟩) fun u s1 ⟨w, H1, I1, r1, q1⟩ => ?_)
  obtain ⟨ev, eH⟩ := q1
  subst ev
  rw [eH] at I1
  obtain rfl : u = Value.ref f := r1
  refine Calls.spliced_nil ⟨I1.kIn, ?_⟩
  have rc : codeAny (model X.prog X.w) X.A (.call (.ref g) ⟨[.ref f], []⟩) (CR C8.CX0 X.stack X.prog X.w H s1 Q C8.E0) s1 := by
    refine run_ofS (N := Ng) (ps := [a]) (us := [.ref f]) (vs := [.ref f]) lk hcg Sg hr I1.env0 (hb s1 [.ref f] I1.kIn rfl) (.cons rfl .nil) rfl fun hr' => ?_
    obtain ⟨t', ht', hq'⟩ := hG cdv f c' s1 H Q (fun E H' Q' => H' f = some (LmO f (lamN X params scope c') body) ∧ t E σ0 H' Q') (fun W pn xe E p1 p2 tk hW => pe_actV (i := 0) I0 hfp I1.base L (hbind _ _) tk hW hr' (fun A outer s H hr2 => hbody A outer s H E f c' hr2) hNg hva hd hcd) hco h
    exact ⟨t', ht'.nox, hq'⟩
  refine wpAny_call (codeAny_mono rc fun r s2 hq => ?_)
  cases r with
  | error e => exact (show False from hq).elim
  | ok fl =>
    cases fl with
    | ret u => exact I1.after hq
    | next => exact False.elim hq
    | brk => exact False.elim hq
    | cont => exact False.elim hq
end
end Ef
namespace Ef
open PySem PySem.Spec PyProof.Rows L2
def topS (i : Nat) : Stmt := PySem.Challenge.pw_evenfailover_k20_tables_that_are_too_sho.main.body.getD i (.Pass ⟨0, 0, 0, 0⟩)
abbrev sPlain : Stmt := topS 6
abbrev NPlain : List Str := ["thing"]
theorem scPlain : FnScope ["thing"] ["thing"] (defScope sPlain) := ⟨rfl, rfl, rfl, by decide +kernel, rfl, by decide +kernel, by decide +kernel⟩
abbrev sBin : Stmt := topS 7
abbrev NBin : List Str := ["n", "k", "result", "step"]
theorem scBin : FnScope ["n", "k", "result", "step"] ["n", "k"] (defScope sBin) := ⟨rfl, rfl, rfl, by decide +kernel, rfl, by decide +kernel, by decide +kernel⟩
abbrev sEdge : Stmt := topS 8
abbrev NEdge : List Str := ["n", "size"]
theorem scEdge : FnScope ["n", "size"] ["n", "size"] (defScope sEdge) := ⟨rfl, rfl, rfl, by decide +kernel, rfl, by decide +kernel, by decide +kernel⟩
abbrev sReachOf : Stmt := topS 9
abbrev NReachOf : List Str := ["n", "failures", "factor"]
theorem scReachOf : FnScope ["n", "failures", "factor"] ["n", "failures", "factor"] (defScope sReachOf) := ⟨rfl, rfl, rfl, by decide +kernel, rfl, by decide +kernel, by decide +kernel⟩
abbrev sCLevel : Stmt := topS 11
abbrev NCLevel : List Str := ["table", "size", "many", "order", "edge"]
theorem scCLevel : FnScope ["table", "size", "many", "order", "edge"] ["table", "size"] (defScope sCLevel) := ⟨rfl, rfl, rfl, by decide +kernel, rfl, by decide +kernel, by decide +kernel⟩
abbrev sIsLev : Stmt := topS 12
abbrev NIsLev : List Str := ["n", "table", "size", "many"]
theorem scIsLev : FnScope ["n", "table", "size", "many"] ["n", "table", "size"] (defScope sIsLev) := ⟨rfl, rfl, rfl, by decide +kernel, rfl, by decide +kernel, by decide +kernel⟩
abbrev sSet : Stmt := topS 14
abbrev NSet : List Str := ["n", "thing", "least", "server"]
theorem scSet : FnScope ["n", "thing", "least", "server"] ["n", "thing"] (defScope sSet) := ⟨rfl, rfl, rfl, by decide +kernel, rfl, by decide +kernel, by decide +kernel⟩
abbrev sOut : Stmt := topS 15
abbrev NOut : List Str := ["n", "members", "taken", "others", "server"]
theorem scOut : FnScope ["n", "members", "taken", "others", "server"] ["n", "members"] (defScope sOut) := ⟨rfl, rfl, rfl, by decide +kernel, rfl, by decide +kernel, by decide +kernel⟩
abbrev sJoined : Stmt := topS 16
abbrev NJoined : List Str := ["members", "server"]
theorem scJoined : FnScope ["members", "server"] ["members", "server"] (defScope sJoined) := ⟨rfl, rfl, rfl, by decide +kernel, rfl, by decide +kernel, by decide +kernel⟩
abbrev sAmong : Stmt := topS 17
abbrev NAmong : List Str := ["servers", "size", "beginnings", "missing", "longer", "members", "start", "index"]
theorem scAmong : FnScope ["servers", "size", "beginnings", "missing", "longer", "members", "start", "index"] ["servers", "size"] (defScope sAmong) := ⟨rfl, rfl, rfl, by decide +kernel, rfl, by decide +kernel, by decide +kernel⟩
abbrev sHold : Stmt := topS 19
abbrev NHold : List Str := ["order", "live", "factor", "wanted", "found", "server"]
theorem scHold : FnScope ["order", "live", "factor", "wanted", "found", "server"] ["order", "live", "factor"] (defScope sHold) := ⟨rfl, rfl, rfl, by decide +kernel, rfl, by decide +kernel, by decide +kernel⟩
abbrev sHelds : Stmt := topS 20
abbrev NHelds : List Str := ["table", "live", "factor", "held", "order", "members"]
theorem scHelds : FnScope ["table", "live", "factor", "held", "order", "members"] ["table", "live", "factor"] (defScope sHelds) := ⟨rfl, rfl, rfl, by decide +kernel, rfl, by decide +kernel, by decide +kernel⟩
abbrev sLoads : Stmt := topS 21
abbrev NLoads : List Str := ["n", "table", "live", "factor", "held", "members"]
theorem scLoads : FnScope ["n", "table", "live", "factor", "held", "members"] ["n", "table", "live", "factor"] (defScope sLoads) := ⟨rfl, rfl, rfl, by decide +kernel, rfl, by decide +kernel, by decide +kernel⟩
abbrev sChkR : Stmt := topS 23
abbrev NChkR : List Str := ["n", "table", "failures", "factor", "order"]
theorem scChkR : FnScope ["n", "table", "failures", "factor", "order"] ["n", "table", "failures", "factor"] (defScope sChkR) := ⟨rfl, rfl, rfl, by decide +kernel, rfl, by decide +kernel, by decide +kernel⟩
abbrev sFULev : Stmt := topS 24
abbrev NFULev : List Str := ["n", "table", "failures", "factor", "size"]
theorem scFULev : FnScope ["n", "table", "failures", "factor", "size"] ["n", "table", "failures", "factor"] (defScope sFULev) := ⟨rfl, rfl, rfl, by decide +kernel, rfl, by decide +kernel, by decide +kernel⟩
abbrev sIsEven : Stmt := topS 25
abbrev NIsEven : List Str := ["n", "table", "failures", "factor"]
theorem scIsEven : FnScope ["n", "table", "failures", "factor"] ["n", "table", "failures", "factor"] (defScope sIsEven) := ⟨rfl, rfl, rfl, by decide +kernel, rfl, by decide +kernel, by decide +kernel⟩
abbrev sSbl : Stmt := topS 26
abbrev NSbl : List Str := ["table", "size", "numbers", "members", "last", "servers", "number_of"]
theorem scSbl : FnScope ["table", "size", "numbers", "members", "last", "servers", "number_of"] ["table", "size"] (defScope sSbl) := ⟨rfl, rfl, rfl, by decide +kernel, rfl, by decide +kernel, by decide +kernel⟩
abbrev sUneq : Stmt := topS 27
abbrev NUneq : List Str := ["n", "table", "live", "size", "rows", "fewer", "least", "more", "most"]
theorem scUneq : FnScope ["n", "table", "live", "size", "rows", "fewer", "least", "more", "most"] ["n", "table", "live", "size"] (defScope sUneq) := ⟨rfl, rfl, rfl, by decide +kernel, rfl, by decide +kernel, by decide +kernel⟩
abbrev sWitn : Stmt := topS 28
abbrev NWitn : List Str := ["n", "table", "size", "factor", "servers", "dead", "held", "failed", "live", "pair"]
theorem scWitn : FnScope ["n", "table", "size", "factor", "servers", "dead", "held", "failed", "live", "pair"] ["n", "table", "size", "factor"] (defScope sWitn) := ⟨rfl, rfl, rfl, by decide +kernel, rfl, by decide +kernel, by decide +kernel⟩
abbrev sUnev : Stmt := topS 29
abbrev NUnev : List Str := ["n", "table", "failures", "factor", "size"]
theorem scUnev : FnScope ["n", "table", "failures", "factor", "size"] ["n", "table", "failures", "factor"] (defScope sUnev) := ⟨rfl, rfl, rfl, by decide +kernel, rfl, by decide +kernel, by decide +kernel⟩
abbrev sIsClaim : Stmt := topS 30
abbrev NIsClaim : List Str := ["n", "failures", "factor", "thing", "members", "live", "fewer", "more"]
theorem scIsClaim : FnScope ["n", "failures", "factor", "thing", "members", "live", "fewer", "more"] ["n", "failures", "factor", "thing"] (defScope sIsClaim) := ⟨rfl, rfl, rfl, by decide +kernel, rfl, by decide +kernel, by decide +kernel⟩
abbrev sShowsU : Stmt := topS 31
abbrev NShowsU : List Str := ["n", "table", "failures", "factor", "thing", "live", "fewer", "more", "held"]
theorem scShowsU : FnScope ["n", "table", "failures", "factor", "thing", "live", "fewer", "more", "held"] ["n", "table", "failures", "factor", "thing"] (defScope sShowsU) := ⟨rfl, rfl, rfl, by decide +kernel, rfl, by decide +kernel, by decide +kernel⟩
abbrev sPot : Stmt := topS 33
abbrev NPot : List Str := ["_law_script", "_law_k", "_law_cell", "_law_own"]
theorem scPot : FnScope ["_law_script", "_law_k", "_law_cell", "_law_own"] ["_law_script", "_law_k"] (defScope sPot) := ⟨rfl, rfl, rfl, by decide +kernel, rfl, by decide +kernel, by decide +kernel⟩
abbrev sTake : Stmt := topS 34
abbrev NTake : List Str := ["_law_pot_here", "_law_size", "_law_digit", "_law_prime", "_law_mixed_here"]
theorem scTake : FnScope ["_law_pot_here", "_law_size", "_law_digit", "_law_prime", "_law_mixed_here"] ["_law_pot_here", "_law_size"] (defScope sTake) := ⟨rfl, rfl, rfl, by decide +kernel, rfl, by decide +kernel, by decide +kernel⟩
abbrev sOf : Stmt := topS 35
abbrev NOf : List Str := ["_law_pot_here", "_law_some"]
theorem scOf : FnScope ["_law_pot_here", "_law_some"] ["_law_pot_here", "_law_some"] (defScope sOf) := ⟨rfl, rfl, rfl, by decide +kernel, rfl, by decide +kernel, by decide +kernel⟩
abbrev sMixed : Stmt := topS 36
abbrev NMixed : List Str := ["_law_pot_here", "_law_some", "_law_left", "_law_found"]
theorem scMixed : FnScope ["_law_pot_here", "_law_some", "_law_left", "_law_found"] ["_law_pot_here", "_law_some"] (defScope sMixed) := ⟨rfl, rfl, rfl, by decide +kernel, rfl, by decide +kernel, by decide +kernel⟩
abbrev sCalled20 : Stmt := topS 37
abbrev NCalled20 : List Str := ["_law_call", "_law_caught", "error"]
theorem scCalled20 : FnScope ["_law_call", "_law_caught", "error"] ["_law_call"] (defScope sCalled20) := ⟨rfl, rfl, rfl, by decide +kernel, rfl, by decide +kernel, by decide +kernel⟩
abbrev sLaw : Stmt := topS 38
abbrev NLaw : List Str := ["_law_script", "_law_k", "_law_pot_here", "_law_n", "_law_depth", "_law_rows", "_law_turn", "_law_failures", "_law_factor", "_law_thing", "_law_calls", "_law_call", "_law_told"]
theorem scLaw : FnScope ["_law_script", "_law_k", "_law_pot_here", "_law_n", "_law_depth", "_law_rows", "_law_turn", "_law_failures", "_law_factor", "_law_thing", "_law_calls", "_law_call", "_law_told"] ["_law_script"] (defScope sLaw) := ⟨rfl, rfl, rfl, by decide +kernel, rfl, by decide +kernel, by decide +kernel⟩
abbrev sNotP : Stmt := inClass (topS 2) 0
theorem scNotP : FnScope ["self", "count"] ["self", "count"] (defScope sNotP) := ⟨rfl, rfl, rfl, by decide +kernel, rfl, by decide +kernel, by decide +kernel⟩
abbrev sTooM : Stmt := inClass (topS 3) 0
theorem scTooM : FnScope ["self", "count"] ["self", "count"] (defScope sTooM) := ⟨rfl, rfl, rfl, by decide +kernel, rfl, by decide +kernel, by decide +kernel⟩
abbrev sTooS : Stmt := inClass (topS 4) 0
theorem scTooS : FnScope ["self", "order"] ["self", "order"] (defScope sTooS) := ⟨rfl, rfl, rfl, by decide +kernel, rfl, by decide +kernel, by decide +kernel⟩
/-- what stands behind the top: each def, how it binds, and that the built-ins' names are free -/
structure Txt (K : PySem.W.Frag) (mg : Str → Option Value) where
  fPlain : Addr
  fdPlain : FuncData
  FPlain : Fun K "is_plain_int" "is_plain_int" sPlain fPlain fdPlain
  bPlain : Binds K fdPlain ["thing"] []
  gPlain : mg "is_plain_int" = some (.ref fPlain)
  fBin : Addr
  fdBin : FuncData
  FBin : Fun K "binomial" "binomial" sBin fBin fdBin
  bBin : Binds K fdBin ["n", "k"] []
  gBin : mg "binomial" = some (.ref fBin)
  fEdge : Addr
  fdEdge : FuncData
  FEdge : Fun K "edge_divisor" "edge_divisor" sEdge fEdge fdEdge
  bEdge : Binds K fdEdge ["n", "size"] []
  gEdge : mg "edge_divisor" = some (.ref fEdge)
  fReachOf : Addr
  fdReachOf : FuncData
  FReachOf : Fun K "reach_of" "reach_of" sReachOf fReachOf fdReachOf
  bReachOf : Binds K fdReachOf ["n", "failures", "factor"] []
  gReachOf : mg "reach_of" = some (.ref fReachOf)
  fCLevel : Addr
  fdCLevel : FuncData
  FCLevel : Fun K "count_level" "count_level" sCLevel fCLevel fdCLevel
  bCLevel : Binds K fdCLevel ["table", "size"] []
  gCLevel : mg "count_level" = some (.ref fCLevel)
  fIsLev : Addr
  fdIsLev : FuncData
  FIsLev : Fun K "is_level" "is_level" sIsLev fIsLev fdIsLev
  bIsLev : Binds K fdIsLev ["n", "table", "size"] []
  gIsLev : mg "is_level" = some (.ref fIsLev)
  fSet : Addr
  fdSet : FuncData
  FSet : Fun K "is_set" "is_set" sSet fSet fdSet
  bSet : Binds K fdSet ["n", "thing"] []
  gSet : mg "is_set" = some (.ref fSet)
  fOut : Addr
  fdOut : FuncData
  FOut : Fun K "outside" "outside" sOut fOut fdOut
  bOut : Binds K fdOut ["n", "members"] []
  gOut : mg "outside" = some (.ref fOut)
  fJoined : Addr
  fdJoined : FuncData
  FJoined : Fun K "joined" "joined" sJoined fJoined fdJoined
  bJoined : Binds K fdJoined ["members", "server"] []
  gJoined : mg "joined" = some (.ref fJoined)
  fAmong : Addr
  fdAmong : FuncData
  FAmong : Fun K "sets_among" "sets_among" sAmong fAmong fdAmong
  bAmong : Binds K fdAmong ["servers", "size"] []
  gAmong : mg "sets_among" = some (.ref fAmong)
  fHold : Addr
  fdHold : FuncData
  FHold : Fun K "holders" "holders" sHold fHold fdHold
  bHold : Binds K fdHold ["order", "live", "factor"] []
  gHold : mg "holders" = some (.ref fHold)
  fHelds : Addr
  fdHelds : FuncData
  FHelds : Fun K "held_by_sets" "held_by_sets" sHelds fHelds fdHelds
  bHelds : Binds K fdHelds ["table", "live", "factor"] []
  gHelds : mg "held_by_sets" = some (.ref fHelds)
  fLoads : Addr
  fdLoads : FuncData
  FLoads : Fun K "loads" "loads" sLoads fLoads fdLoads
  bLoads : Binds K fdLoads ["n", "table", "live", "factor"] []
  gLoads : mg "loads" = some (.ref fLoads)
  fChkR : Addr
  fdChkR : FuncData
  FChkR : Fun K "check_reached" "check_reached" sChkR fChkR fdChkR
  bChkR : Binds K fdChkR ["n", "table", "failures", "factor"] []
  gChkR : mg "check_reached" = some (.ref fChkR)
  fFULev : Addr
  fdFULev : FuncData
  FFULev : Fun K "first_uneven_level" "first_uneven_level" sFULev fFULev fdFULev
  bFULev : Binds K fdFULev ["n", "table", "failures", "factor"] []
  gFULev : mg "first_uneven_level" = some (.ref fFULev)
  fIsEven : Addr
  fdIsEven : FuncData
  FIsEven : Fun K "is_even" "is_even" sIsEven fIsEven fdIsEven
  bIsEven : Binds K fdIsEven ["n", "table", "failures", "factor"] []
  gIsEven : mg "is_even" = some (.ref fIsEven)
  fSbl : Addr
  fdSbl : FuncData
  FSbl : Fun K "servers_by_level_number" "servers_by_level_number" sSbl fSbl fdSbl
  bSbl : Binds K fdSbl ["table", "size"] []
  gSbl : mg "servers_by_level_number" = some (.ref fSbl)
  fUneq : Addr
  fdUneq : FuncData
  FUneq : Fun K "unequal_sets" "unequal_sets" sUneq fUneq fdUneq
  bUneq : Binds K fdUneq ["n", "table", "live", "size"] []
  gUneq : mg "unequal_sets" = some (.ref fUneq)
  fWitn : Addr
  fdWitn : FuncData
  FWitn : Fun K "witness_at" "witness_at" sWitn fWitn fdWitn
  bWitn : Binds K fdWitn ["n", "table", "size", "factor"] []
  gWitn : mg "witness_at" = some (.ref fWitn)
  fUnev : Addr
  fdUnev : FuncData
  FUnev : Fun K "uneven" "uneven" sUnev fUnev fdUnev
  bUnev : Binds K fdUnev ["n", "table", "failures", "factor"] []
  gUnev : mg "uneven" = some (.ref fUnev)
  fIsClaim : Addr
  fdIsClaim : FuncData
  FIsClaim : Fun K "is_claim" "is_claim" sIsClaim fIsClaim fdIsClaim
  bIsClaim : Binds K fdIsClaim ["n", "failures", "factor", "thing"] []
  gIsClaim : mg "is_claim" = some (.ref fIsClaim)
  fShowsU : Addr
  fdShowsU : FuncData
  FShowsU : Fun K "shows_uneven" "shows_uneven" sShowsU fShowsU fdShowsU
  bShowsU : Binds K fdShowsU ["n", "table", "failures", "factor", "thing"] []
  gShowsU : mg "shows_uneven" = some (.ref fShowsU)
  fPot : Addr
  fdPot : FuncData
  FPot : Fun K "_law_pot" "_law_pot" sPot fPot fdPot
  bPot : Binds K fdPot ["_law_script", "_law_k"] []
  gPot : mg "_law_pot" = some (.ref fPot)
  fTake : Addr
  fdTake : FuncData
  FTake : Fun K "_law_take" "_law_take" sTake fTake fdTake
  bTake : Binds K fdTake ["_law_pot_here", "_law_size"] []
  gTake : mg "_law_take" = some (.ref fTake)
  fOf : Addr
  fdOf : FuncData
  FOf : Fun K "_law_of" "_law_of" sOf fOf fdOf
  bOf : Binds K fdOf ["_law_pot_here", "_law_some"] []
  gOf : mg "_law_of" = some (.ref fOf)
  fMixed : Addr
  fdMixed : FuncData
  FMixed : Fun K "_law_mixed" "_law_mixed" sMixed fMixed fdMixed
  bMixed : Binds K fdMixed ["_law_pot_here", "_law_some"] []
  gMixed : mg "_law_mixed" = some (.ref fMixed)
  fCalled20 : Addr
  fdCalled20 : FuncData
  FCalled20 : Fun K "_law_called" "_law_called" sCalled20 fCalled20 fdCalled20
  bCalled20 : Binds K fdCalled20 ["_law_call"] []
  gCalled20 : mg "_law_called" = some (.ref fCalled20)
  cBase : Addr
  gcBase : mg "FailoverError" = some (.ref cBase)
  btBase : BaseT K cBase
  cNotP : Addr
  gcNotP : mg "NotPossible" = some (.ref cNotP)
  fNotP : Addr
  fdNotP : FuncData
  FNotP : Fun K "__init__" "NotPossible.__init__" sNotP fNotP fdNotP
  bNotP : Binds K fdNotP ["self", "count"] []
  eNotP : ErrT K cNotP fNotP "count" cBase
  cTooM : Addr
  gcTooM : mg "TooMany" = some (.ref cTooM)
  fTooM : Addr
  fdTooM : FuncData
  FTooM : Fun K "__init__" "TooMany.__init__" sTooM fTooM fdTooM
  bTooM : Binds K fdTooM ["self", "count"] []
  eTooM : ErrT K cTooM fTooM "count" cBase
  cTooS : Addr
  gcTooS : mg "TooShort" = some (.ref cTooS)
  fTooS : Addr
  fdTooS : FuncData
  FTooS : Fun K "__init__" "TooShort.__init__" sTooS fTooS fdTooS
  bTooS : Binds K fdTooS ["self", "order"] []
  eTooS : ErrT K cTooS fTooS "order" cBase
  kitNot : PySem.W.kitAny K (.ref cTooS) [.ref cNotP, .ref cTooM] = some false
  kitMe : PySem.W.kitOne K (.ref cTooS) (.ref cTooS) = some true
  kitVal : PySem.W.kitOne K (.ref cTooS) (.type "ValueError") = some true
  n_ValueError : mg "ValueError" = none
  n_abs : mg "abs" = none
  n_all : mg "all" = none
  n_bool : mg "bool" = none
  n_int : mg "int" = none
  n_isinstance : mg "isinstance" = none
  n_len : mg "len" = none
  n_list : mg "list" = none
  n_max : mg "max" = none
  n_min : mg "min" = none
  n_range : mg "range" = none
  n_repr : mg "repr" = none
  n_set : mg "set" = none
  n_sorted : mg "sorted" = none
  n_tuple : mg "tuple" = none
  ccLaw : Addr
  ppLaw : Addr
structure TBs {K : PySem.W.Frag} {mg : Str → Option Value} (T : Txt K mg) (base : Heap) : Prop where
  tbLaw : LamX.TabB base mg T.ccLaw T.ppLaw
def tabsOf {K : PySem.W.Frag} {mg : Str → Option Value} (T : Txt K mg) : List (Addr × Str) := [(T.ppLaw, ("law" : Str) ++ ".<locals>." ++ "<lambda>")]
/-! ### is_plain_int -/
def tyNames : List String := ["NoneType", "bool", "int", "str", "list", "tuple", "dict"]
def spPlain (K : PySem.W.Frag) : Sp := fun vs H Q _ => ∃ (v : V) (t : String), vs = [v] ∧ TyX K H v (.type t) ∧ t ∈ tyNames ∧ Q (.bl (t == "int")) H
theorem ty_cases {t : String} (h : t ∈ tyNames) : t = "NoneType" ∨ t = "bool" ∨ t = "int" ∨ t = "str" ∨ t = "list" ∨ t = "tuple" ∨ t = "dict" := by
  unfold tyNames at h
  simp only [List.mem_cons, List.not_mem_nil, or_false] at h
  exact h
theorem kit_int {K : PySem.W.Frag} {t : String} (h : t ∈ tyNames) : PySem.W.kitOne K (.type t) (.type "int") = some (t == "int" || t == "bool") := by
  rcases ty_cases h with rfl | rfl | rfl | rfl | rfl | rfl | rfl <;> exact kit_ty (by decide +kernel)
theorem kit_bool {K : PySem.W.Frag} {t : String} (h : t ∈ tyNames) : PySem.W.kitOne K (.type t) (.type "bool") = some (t == "bool") := by
  rcases ty_cases h with rfl | rfl | rfl | rfl | rfl | rfl | rfl <;> exact kit_ty (by decide +kernel)
theorem kit_tuple {K : PySem.W.Frag} {t : String} (h : t ∈ tyNames) : PySem.W.kitOne K (.type t) (.type "tuple") = some (t == "tuple") := by
  rcases ty_cases h with rfl | rfl | rfl | rfl | rfl | rfl | rfl <;> exact kit_ty (by decide +kernel)
section
variable {P : Program} {w : World} {K : PySem.W.Frag} {mg : Str → Option Value} {base : Heap}
theorem ok_plain (T : Txt K mg) {j : Nat} : FnOk P w K mg base CX0 (j + 1) T.fPlain T.fdPlain ["thing"] (spPlain K) := by
  refine T.FPlain.ok scPlain (fun vs H Q E h => ?_) (fun cdv A outer s H vs Q E hr h => ?_)
  · obtain ⟨v, t, rfl, _⟩ := h
    rfl
  · obtain ⟨v, t, rfl, ty, ht, q⟩ := h
    refine ⟨_, pss_one (ps_ret (pe_and (pe_callB call_isi (by rfl) T.n_isinstance (by decide +kernel) (pa_cons (pv 0) (pa_cons (pe_bltn (v := .ty "int") (by rfl) T.n_int (by decide +kernel) rfl) pa_nil)))
      (pe_one (pe_not (pe_callB call_isi (by rfl) T.n_isinstance (by decide +kernel) (pa_cons (pv 0) (pa_cons (pe_bltn (v := .ty "bool") (by rfl) T.n_bool (by decide +kernel) rfl) pa_nil))))))), ?_⟩
    refine ⟨v, rfl, v, .ty "int", _, _, _, rfl, .ty _, ty, kit_int ht, _, rfl, ?_⟩
    rcases ty_cases ht with rfl | rfl | rfl | rfl | rfl | rfl | rfl
    · exact iteF q
    · exact iteT ⟨v, rfl, v, .ty "bool", _, _, _, rfl, .ty _, ty, kit_bool ht, _, rfl, q⟩
    · exact iteT ⟨v, rfl, v, .ty "bool", _, _, _, rfl, .ty _, ty, kit_bool ht, _, rfl, q⟩
    · exact iteF q
    · exact iteF q
    · exact iteF q
    · exact iteF q
end
/-! ### tuples and lists of servers -/
def setV (ms : List Nat) : List V := ms.map fun (m : Nat) => V.int (m : Int)
theorem setV_app (a b : List Nat) : setV (a ++ b) = setV a ++ setV b := List.map_append
theorem setV_at {ms : List Nat} {i m : Nat} (h : ms[i]? = some m) : (setV ms)[i]? = some (V.int (m : Int)) := by
  unfold setV
  rw [List.getElem?_map, h]
  rfl
theorem setV_len (ms : List Nat) : (setV ms).length = ms.length := List.length_map _
theorem setV_range (n : Nat) : rgV 0 (n : Int) = setV (List.range' 0 n) := by
  unfold setV
  have e : ((n : Int) - 0).toNat = n := by omega
  unfold rgV
  rw [e, List.range_eq_range']
  refine List.map_congr_left fun i _ => ?_
  rw [Int.zero_add]
theorem seq_at {k n : Nat} (h : k < n) : seqIndex? (k : Int) n = some k := by
  unfold seqIndex?
  simp only [show ¬ ((k : Int) < 0) by omega, if_false]
  rw [if_pos]
  · rw [Int.toNat_natCast]
  · rw [Bool.and_eq_true]
    exact ⟨decide_eq_true (by omega), decide_eq_true (by omega)⟩
theorem SqL.is {K : PySem.W.Frag} {H : Hp} {a : Addr} {xs ys : List V} (h : SqL K H a xs) (e : xs = ys) : SqL K H a ys := e ▸ h
theorem setV_erase : ∀ (l : List Nat) (k : Nat), (setV l).eraseIdx k = setV (l.eraseIdx k)
  | [], _ => rfl
  | _ :: _, 0 => rfl
  | a :: r, k + 1 => congrArg (V.int (a : Int) :: ·) (setV_erase r k)
theorem setV_ints (ms : List Nat) : setV ms = (ms.map fun (m : Nat) => (m : Int)).map V.int := by
  unfold setV
  rw [List.map_map]
  rfl
theorem ints_back {ns : List Int} {ms : List Nat} (h : ns.Perm (ms.map fun (m : Nat) => (m : Int))) : ∃ ks : List Nat, ns = (ks.map fun (m : Nat) => (m : Int)) ∧ ks.Perm ms := by
  have e : ∀ x ∈ ns, ((x.toNat : Nat) : Int) = x := fun x hx => by
    obtain ⟨m, _, rfl⟩ := List.mem_map.mp (h.mem_iff.mp hx)
    simp
  refine ⟨ns.map Int.toNat, ?_, ?_⟩
  · rw [List.map_map]
    conv => lhs; rw [← List.map_id ns]
    exact List.map_congr_left fun x hx => (e x hx).symm
  · have h2 := h.map Int.toNat
    rw [List.map_map] at h2
    have e2 : (ms.map (Int.toNat ∘ fun (m : Nat) => (m : Int))) = ms := by
      conv => rhs; rw [← List.map_id ms]
      exact List.map_congr_left fun x _ => by simp
    rw [e2] at h2
    exact h2
theorem le_back {ks : List Nat} (h : (ks.map fun (m : Nat) => (m : Int)).Pairwise (· ≤ ·)) : ks.Pairwise (· ≤ ·) := by
  rw [List.pairwise_map] at h
  exact h.imp fun z => by omega
theorem lt_of_le {ks : List Nat} (h : ks.Pairwise (· ≤ ·)) (hn : ks.Nodup) : Asc ks := (h.and hn).imp fun ⟨a, b⟩ => by omega
theorem inV_ints (x : Int) : ∀ ns : List Int, inV (V.int x) (ns.map V.int) = decide (x ∈ ns)
  | [] => rfl
  | y :: r => by
    show ((y == x) || inV (V.int x) (r.map V.int)) = _
    rw [inV_ints x r]
    by_cases h : y = x
    · subst h
      rw [beq_self_eq_true, decide_eq_true List.mem_cons_self]
      rfl
    · rw [show (y == x) = false from beq_eq_false_iff_ne.mpr h, Bool.false_or]
      by_cases g : x ∈ r
      · rw [decide_eq_true g, decide_eq_true (List.mem_cons_of_mem _ g)]
      · rw [decide_eq_false g, decide_eq_false fun z => ?_]
        rcases List.mem_cons.mp z with z | z
        · exact h z.symm
        · exact g z
theorem flat_ints : ∀ ns : List Int, (ns.map V.int).all flatV = true
  | [] => rfl
  | _ :: r => flat_ints r
theorem setV_flat (ms : List Nat) : (setV ms).all flatV = true := by
  rw [setV_ints]
  exact flat_ints _
theorem inV_setV (x : Nat) (ms : List Nat) : inV (.int (x : Int)) (setV ms) = decide (x ∈ ms) := by
  rw [setV_ints, inV_ints]
  refine decide_eq_decide.mpr ⟨fun h => ?_, fun h => List.mem_map.mpr ⟨x, h, rfl⟩⟩
  obtain ⟨y, hy, e⟩ := List.mem_map.mp h
  have : y = x := by omega
  rw [← this]
  exact hy
theorem setV_mem {ms : List Nat} {v : V} (h : v ∈ setV ms) : ∃ m, m ∈ ms ∧ v = .int (m : Int) := by
  obtain ⟨m, hm, e⟩ := List.mem_map.mp h
  exact ⟨m, hm, e.symm⟩
theorem setV_get {ms : List Nat} {i : Nat} {v : V} (h : (setV ms)[i]? = some v) : ∃ m, ms[i]? = some m ∧ v = .int (m : Int) := by
  unfold setV at h
  rw [List.getElem?_map] at h
  cases e : ms[i]? with
  | none =>
    rw [e] at h
    cases h
  | some m =>
    rw [e] at h
    exact ⟨m, rfl, (Option.some.inj h).symm⟩
theorem range'_snoc (n : Nat) : List.range' 0 (n + 1) = List.range' 0 n ++ [n] := by
  rw [← List.range_eq_range', ← List.range_eq_range', List.range_succ]
theorem fr_step (f : Nat → Bool) (n : Nat) : setV ((List.range' 0 (n + 1)).filter f) = setV ((List.range' 0 n).filter f) ++ if f n = true then [V.int (n : Int)] else [] := by
  rw [range'_snoc, List.filter_append, setV_app]
  congr 1
  cases h : f n with
  | true => rw [List.filter_cons_of_pos h]; rfl
  | false => rw [List.filter_cons_of_neg (by rw [h]; decide)]; rfl
/-- what an error of the class CN with the field f leaves behind -/
def Raised (f : Str) (CN : Addr) (v : V) (H : Hp) (E : XK) : Prop := ∀ H' d, Same H H' → H' d = some (.xd [(f, v)]) → H d = none → E (.ref CN) (some d) H'
theorem Raised.on {f : Str} {CN : Addr} {v : V} {H H1 : Hp} {E : XK} (s : Same H H1) (h : Raised f CN v H E) : Raised f CN v H1 E := fun H' d s2 e n => h H' d (s.trans s2) e (s.free n)
theorem cut_set (ms : List Nat) (lo hi : Option Int) : ∃ ks : List Nat, cutV (setV ms) lo hi = setV ks ∧ (∀ x ∈ ks, x ∈ ms) ∧ ks.length ≤ ms.length ∧ ks.Sublist ms := by
  unfold cutV setV
  rw [← List.map_drop, ← List.map_take]
  refine ⟨_, rfl, fun x hx => List.mem_of_mem_drop (List.mem_of_mem_take hx), ?_, (List.take_sublist _ _).trans (List.drop_sublist _ _)⟩
  rw [List.length_take, List.length_drop]
  omega
def natOf : V → Nat
  | .int i => i.toNat
  | _ => 0
theorem perm_setV {ys : List V} {ms : List Nat} (h : ys.Perm (setV ms)) : ∃ ks : List Nat, ys = setV ks ∧ ks.Perm ms := by
  have e : ∀ y ∈ ys, V.int ((natOf y : Nat) : Int) = y := fun y hy => by
    obtain ⟨m, _, rfl⟩ := setV_mem (h.mem_iff.mp hy)
    show V.int (((m : Int).toNat : Nat) : Int) = _
    rw [Int.toNat_natCast]
  refine ⟨ys.map natOf, ?_, ?_⟩
  · unfold setV
    rw [List.map_map]
    conv => lhs; rw [← List.map_id ys]
    exact List.map_congr_left fun y hy => (e y hy).symm
  · have h2 := h.map natOf
    unfold setV at h2
    rw [List.map_map] at h2
    have e2 : (ms.map (natOf ∘ fun (m : Nat) => V.int (m : Int))) = ms := by
      conv => rhs; rw [← List.map_id ms]
      refine List.map_congr_left fun x _ => ?_
      show (x : Int).toNat = x
      rw [Int.toNat_natCast]
    rw [e2] at h2
    exact h2
theorem dp_set {K : PySem.W.Frag} {H : Hp} : ∀ ms : List Nat, DpAll K H (setV ms) (natD ms)
  | [] => .nil
  | m :: r => .cons (.int (m : Int)) (dp_set r)
theorem but_free {p q : Addr} {H H' : Hp} (s : But p H H') (h : H' q = none) (n : q ≠ p) : H q = none := by
  cases e : H q with
  | none => rfl
  | some o =>
    rw [s _ _ n e] at h
    cases h
theorem but_new {p q : Addr} {H H1 : Hp} {o : HO} (s : But p H H1) (h : H q = none) : But p H (L2.upd H1 q o) := fun b x n e => by
  rw [upd_ne (ne_of_none e h)]
  exact s b x n e
theorem erase_perm {α : Type} : ∀ (l : List α) (k : Nat) (x : α), l[k]? = some x → (x :: l.eraseIdx k).Perm l
  | [], _, _, h => by cases h
  | a :: r, 0, x, h => by
    obtain rfl : a = x := Option.some.inj h
    exact List.Perm.refl _
  | a :: r, k + 1, x, h => (List.Perm.swap a x _).trans ((erase_perm r k x h).cons a)
theorem same_hide {p : Addr} {H H' : Hp} (s : Same H H') (n : H p = none) : Same H (hide p H') := fun b o e => by
  rw [hide_ne (ne_of_none e n)]
  exact s b o e
theorem cut_take (fl : List Nat) (w : Nat) : cutV (setV fl) none (some (w : Int)) = setV (fl.take w) := by
  unfold cutV
  have e0 : HT.sIx (setV fl).length 0 none = 0 := rfl
  have e1 : HT.sIx (setV fl).length (setV fl).length (some (w : Int)) = min w fl.length := by
    rw [setV_len]
    exact HT.sIx_nat _ _ _
  rw [e0, e1, List.drop_zero, Nat.sub_zero]
  unfold setV
  rw [← List.map_take]
  congr 1
  rw [List.take_eq_take_iff]
  omega
theorem SqT_updL {K : PySem.W.Frag} {H : Hp} {a D : Addr} {xs ys : List V} {o : HO} (h : SqT K H a xs) (hD : H D = some (.lst ys)) : SqT K (upd H D o) a xs := by
  rcases h with (h | ⟨o, h⟩) | h
  · exact .inl (.inl (by rw [upd_ne (fun c => by rw [c, hD] at h; cases h)]; exact h))
  · exact .inl (.inr ⟨o, by rw [upd_ne (fun c => by rw [c, hD] at h; cases h)]; exact h⟩)
  · exact .inr h
/-- a pair of a tuple of servers and a number -/
def PairAt (H0 H : Hp) (u : Addr) (ms : List Nat) (r : Nat) : Prop := H0 u = none ∧ ∃ t, H0 t = none ∧ H u = some (.tup [.ref t, .int (r : Int)]) ∧ H t = some (.tup (setV ms))
theorem PairAt.back {H0 H1 H : Hp} {u : Addr} {ms : List Nat} {r : Nat} (s : Same H0 H1) (h : PairAt H1 H u ms r) : PairAt H0 H u ms r := by
  obtain ⟨a, t, b, c⟩ := h
  exact ⟨s.free a, t, s.free b, c⟩
theorem erase_setV : ∀ (l : List Nat) (k : Nat), (setV l).eraseIdx k = setV (l.eraseIdx k)
  | [], _ => rfl
  | _ :: _, 0 => rfl
  | a :: r, k + 1 => congrArg (V.int (a : Int) :: ·) (erase_setV r k)
/-! ### reach_of -/
def spReachOf : Sp := fun vs H Q _ => ∃ n f k : Nat, vs = [.int n, .int f, .int k] ∧ Q (.int (min n (f + k) : Nat)) H
section
variable {P : Program} {w : World} {K : PySem.W.Frag} {mg : Str → Option Value} {base : Heap}
theorem ok_reachof (T : Txt K mg) {j : Nat} : FnOk P w K mg base CX0 (j + 1) T.fReachOf T.fdReachOf ["n", "failures", "factor"] spReachOf := by
  refine T.FReachOf.ok scReachOf (fun vs H Q E h => ?_) (fun cdv A outer s H vs Q E hr h => ?_)
  · obtain ⟨n, f, k, rfl, _⟩ := h
    rfl
  · obtain ⟨n, f, k, rfl, q⟩ := h
    refine ⟨_, pss_one (ps_ret (pe_callB (call_min2 rfl) (by rfl) T.n_min (by decide +kernel) (pa_cons (pv 0) (pa_cons (pe_op op_add (pv 1) (pv 2)) pa_nil)))), ?_⟩
    refine ⟨_, rfl, _, rfl, _, rfl, _, _, rfl, rfl, _, _, rfl, ?_⟩
    have e : (if ((f : Int) + (k : Int)) < (n : Int) then ((f : Int) + (k : Int)) else (n : Int)) = ((min n (f + k) : Nat) : Int) := by
      by_cases c : (f : Int) + (k : Int) < (n : Int)
      · rw [if_pos c]
        omega
      · rw [if_neg c]
        omega
    dsimp only
    rw [e]
    exact q
end
/-! ### is_set, and the law's own look -/
def chk (n : Int) : Int → List PyData → Bool
  | _, [] => true
  | least, .int i :: r => decide (least ≤ i) && (decide (i < n) && chk n (i + 1) r)
  | _, _ :: _ => false
def setD (n : Int) : PyData → Bool
  | .tuple ds => chk n 0 ds
  | _ => false
theorem tyN_in (d : PyData) : tyN d ∈ tyNames := by
  cases d with
  | none => exact (by decide : "NoneType" ∈ tyNames)
  | bool _ => exact (by decide : "bool" ∈ tyNames)
  | int _ => exact (by decide : "int" ∈ tyNames)
  | str _ => exact (by decide : "str" ∈ tyNames)
  | list _ => exact (by decide : "list" ∈ tyNames)
  | tuple _ => exact (by decide : "tuple" ∈ tyNames)
  | dict _ => exact (by decide : "dict" ∈ tyNames)
theorem tyN_int {d : PyData} (h : (tyN d == "int") = true) : ∃ i, d = .int i := by
  cases d with
  | int i => exact ⟨i, rfl⟩
  | none => exact absurd (show ("NoneType" == "int") = true from h) (by decide)
  | bool _ => exact absurd (show ("bool" == "int") = true from h) (by decide)
  | str _ => exact absurd (show ("str" == "int") = true from h) (by decide)
  | list _ => exact absurd (show ("list" == "int") = true from h) (by decide)
  | tuple _ => exact absurd (show ("tuple" == "int") = true from h) (by decide)
  | dict _ => exact absurd (show ("dict" == "int") = true from h) (by decide)
theorem chk_no {n least : Int} {d : PyData} {r : List PyData} (h : (tyN d == "int") = false) : chk n least (d :: r) = false := by
  cases d with
  | int i => exact absurd (show ("int" == "int") = false from h) (by decide)
  | _ => rfl
theorem chk_int (n least i : Int) (r : List PyData) : chk n least (.int i :: r) = (decide (least ≤ i) && (decide (i < n) && chk n (i + 1) r)) := rfl
theorem drop_at {ds : List PyData} {i : Nat} {d : PyData} (h : ds[i]? = some d) : ds.drop i = d :: ds.drop (i + 1) := by
  obtain ⟨hl, e⟩ := List.getElem?_eq_some_iff.mp h
  rw [List.drop_eq_getElem_cons hl, e]
def spSet (K : PySem.W.Frag) : Sp := fun vs H Q _ => ∃ (n : Int) (v : V) (d : PyData), vs = [.int n, v] ∧ ItemV K H v d ∧ Q (.bl (setD n d)) H
theorem item_tuple_parts {K : PySem.W.Frag} {H : Hp} {v : V} {ds : List PyData} (h : ItemV K H v (.tuple ds)) : ∃ a xs, v = .ref a ∧ SqT K H a xs ∧ DpAll K H xs ds := by
  rcases h with ⟨h, _⟩ | ⟨e, _⟩
  · cases h with
    | tup h t => exact ⟨_, _, rfl, h, t⟩
  · cases e
section
variable {P : Program} {w : World} {K : PySem.W.Frag} {mg : Str → Option Value} {base : Heap}
theorem ok_set (T : Txt K mg) {j : Nat} : FnOk P w K mg base CX0 (j + 2) T.fSet T.fdSet ["n", "thing"] (spSet K) := by
  refine T.FSet.ok scSet (fun vs H Q E h => ?_) (fun cdv A outer s H vs Q E hr h => ?_)
  · obtain ⟨n, v, d, rfl, _⟩ := h
    rfl
  · obtain ⟨n, v, d, rfl, hv, q⟩ := h
    refine ⟨_, pss_cons (ps_if (pt_not (pt_val (pe_callB (call_isiK1 K) (by rfl) T.n_isinstance (by decide +kernel) (pa_cons (pv 1) (pa_cons (pe_bltn (v := .ty "tuple") (by rfl) T.n_tuple (by decide +kernel) rfl) pa_nil))))) (pss_one (ps_ret pe_bl)) pss_nil) (pss_cons (ps_set (i := 2) scSet.nd rfl (.inl rfl) pe_int) (pss_cons (ps_for PassesOwn.never rfl (pi_tup (pv 1)) (pg_name (i := 3) scSet.nd rfl (.inl rfl)) (pss_cons (ps_if (PW.pt (pw_or (pt_not (pt_val (pe_call (ok_plain T) hr (by rfl) T.gPlain T.FPlain.kp T.bPlain .nil pass0 (pa_cons (pv 3) pa_nil)))) (pw_or (pt_cmpR op_lt (pv 3) (pv 2) (nomark _)) (pw_or1 (pt_cmpR op_ge (pv 3) (pv 0) (nomark _)))))) (pss_one (ps_ret pe_bl)) pss_nil) (pss_one (ps_set (i := 2) scSet.nd rfl (.inl rfl) (pe_op op_add (pv 3) pe_int))))) (pss_one (ps_ret pe_bl)))), ?_⟩
    refine ⟨v, rfl, v, .ty "tuple", _, _, _, rfl, .ty _, hv.ty, kit_tuple (tyN_in d), _, rfl, ?_⟩
    cases d with
    | tuple ds =>
      refine iteF ?_
      obtain ⟨a, xs, rfl, hx, ht⟩ := item_tuple_parts hv
      refine ⟨.ref a, rfl, a, rfl, ⟨_, hx⟩, for_tup (K := K) (a := a) (xs := xs) (fun i σ H' => ∃ (least : Int) (u : Option V), σ = [some (.int n), some (.ref a), some (.int least), u] ∧ H' = H ∧ chk n 0 ds = chk n least (ds.drop i)) ⟨0, none, rfl, rfl, rfl⟩ (fun i σ H' _ ⟨_, _, _, e, _⟩ => e ▸ hx) ?_ ?_⟩
      · rintro i x σ H' hi ⟨least, u, rfl, rfl, ec⟩
        obtain ⟨d, hd, hD⟩ := dpAll_at ht hi
        rw [drop_at hd] at ec
        refine ⟨x, rfl, x, tyN d, rfl, Ef.Dp.ty hD, tyN_in d, _, rfl, ?_⟩
        cases hb : (tyN d == "int") with
        | false =>
          rw [chk_no hb] at ec
          refine iteT ?_
          have q2 : Q (V.bl (chk n 0 ds)) H' := q
          rw [ec] at q2
          exact q2
        | true =>
          obtain ⟨z, rfl⟩ := tyN_int hb
          cases hD
          rw [chk_int] at ec
          refine iteF ?_
          refine ⟨_, rfl, _, rfl, _, _, rfl, rfl, _, rfl, ite2 (fun h1 => ?_) (fun h1 => ?_)⟩
          · have h2 : z < least := of_decide_eq_true h1
            rw [decide_eq_false (show ¬ least ≤ z by omega)] at ec
            have q2 : Q (V.bl (chk n 0 ds)) H' := q
            rw [ec] at q2
            exact q2
          · have h2 : ¬ z < least := fun y => h1 (decide_eq_true y)
            rw [decide_eq_true (show least ≤ z by omega), Bool.true_and] at ec
            refine ⟨_, rfl, _, rfl, _, _, rfl, rfl, _, rfl, ite2 (fun h3 => ?_) (fun h3 => ?_)⟩
            · have h4 : n ≤ z := of_decide_eq_true h3
              rw [decide_eq_false (show ¬ z < n by omega)] at ec
              have q2 : Q (V.bl (chk n 0 ds)) H' := q
              rw [ec] at q2
              exact q2
            · have h4 : ¬ n ≤ z := fun y => h3 (decide_eq_true y)
              rw [decide_eq_true (show z < n by omega), Bool.true_and] at ec
              exact ⟨_, rfl, _, _, rfl, rfl, z + 1, _, rfl, rfl, ec⟩
      · rintro σ H' ⟨least, u, rfl, rfl, ec⟩
        rw [← dpAll_len ht, List.drop_length] at ec
        have q2 : Q (V.bl (chk n 0 ds)) H' := q
        rw [ec] at q2
        exact q2
    | _ => exact iteT q
end
/-! ### defs that are not reached here -/
def spNo20 : Sp := fun _ _ _ _ => False
section
variable {P : Program} {w : World} {K : PySem.W.Frag} {mg : Str → Option Value} {base : Heap}
theorem ok_fulev (T : Txt K mg) {j : Nat} : FnOk P w K mg base CX0 (j + 1) T.fFULev T.fdFULev ["n", "table", "failures", "factor"] spNo20 := ⟨fun _ _ _ _ h => h.elim, fun _ _ _ _ _ _ _ _ _ _ _ _ _ h => h.elim⟩
theorem ok_witn (T : Txt K mg) {j : Nat} : FnOk P w K mg base CX0 (j + 1) T.fWitn T.fdWitn ["n", "table", "size", "factor"] spNo20 := ⟨fun _ _ _ _ h => h.elim, fun _ _ _ _ _ _ _ _ _ _ _ _ _ h => h.elim⟩
theorem ok_helds (T : Txt K mg) {j : Nat} : FnOk P w K mg base CX0 (j + 1) T.fHelds T.fdHelds ["table", "live", "factor"] spNo20 := ⟨fun _ _ _ _ h => h.elim, fun _ _ _ _ _ _ _ _ _ _ _ _ _ h => h.elim⟩
end
/-! ### TooShort's __init__ -/
section
variable {P : Program} {w : World} {K : PySem.W.Frag} {mg : Str → Option Value} {base : Heap}
theorem ok_toos (T : Txt K mg) {j : Nat} : FnOk P w K mg base CX0 (j + 1) T.fTooS T.fdTooS ["self", "order"] (spErr K T.cTooS "order") := by
  refine T.FTooS.ok scTooS (fun vs H Q E h => ?_) (fun cdv A outer s H vs Q E hr h => ?_)
  · obtain ⟨a, v, rfl, _⟩ := h
    rfl
  · obtain ⟨a, v, rfl, ha, q⟩ := h
    refine ⟨_, pss_cons (ps_expr (pe_baseInit (by rfl) T.gcBase T.btBase.sp T.btBase.ty T.btBase.rd T.btBase.fc (pa_cons (pv 0) (pa_cons pe_str pa_nil)))) (pss_one (ps_ost (pv 0) (pv 1))), ?_⟩
    refine ⟨.ref a, rfl, a, T.cTooS, _, rfl, (by show 1 ≤ 1000; decide), T.eTooS.ox, ha, ?_⟩
    refine ⟨v, rfl, .ref a, rfl, a, T.cTooS, rfl, T.eTooS.ox, T.eTooS.no, .inl ⟨ha, fun dx nd ne => q dx nd ne⟩⟩
end
/-! ### lists of tuples of servers -/
def RowsL (K : PySem.W.Frag) (H : Hp) (ts : List V) (rows : List (List Nat)) : Prop := PySem.Paired (fun v ms => ∃ t, v = V.ref t ∧ SqT K H t (setV ms)) ts rows
theorem RowsL.same {K : PySem.W.Frag} {H H' : Hp} {ts : List V} {rows : List (List Nat)} (s : Same H H') (h : RowsL K H ts rows) : RowsL K H' ts rows := PySem.Paired.mono (fun v ms ⟨t, e, z⟩ => ⟨t, e, Same.seqT s z⟩) h
theorem RowsL.app {K : PySem.W.Frag} {H : Hp} {xs ys : List V} {L M : List (List Nat)} (h : RowsL K H xs L) (g : RowsL K H ys M) : RowsL K H (xs ++ ys) (L ++ M) := by
  unfold RowsL at *
  induction h with
  | nil => exact g
  | cons a _ ih => exact .cons a ih
theorem RowsL.len {K : PySem.W.Frag} {H : Hp} {ts : List V} {rows : List (List Nat)} (h : RowsL K H ts rows) : ts.length = rows.length := by
  unfold RowsL at h
  induction h with
  | nil => rfl
  | cons _ _ ih => exact congrArg (· + 1) ih
theorem RowsL.at {K : PySem.W.Frag} {H : Hp} {ts : List V} {rows : List (List Nat)} (h : RowsL K H ts rows) : ∀ {i : Nat} {v : V}, ts[i]? = some v → ∃ ms, rows[i]? = some ms ∧ ∃ t, v = V.ref t ∧ SqT K H t (setV ms) := by
  unfold RowsL at h
  induction h with
  | nil =>
    intro i v z
    cases z
  | cons a _ ih =>
    intro i v z
    cases i with
    | zero =>
      obtain rfl := Option.some.inj z
      exact ⟨_, rfl, a⟩
    | succ i => exact ih z
theorem RowsL.mem {K : PySem.W.Frag} {H : Hp} {ts : List V} {rows : List (List Nat)} (h : RowsL K H ts rows) {v : V} (hv : v ∈ ts) : ∃ ms, ms ∈ rows ∧ ∃ t, v = V.ref t ∧ SqT K H t (setV ms) := by
  obtain ⟨i, hi⟩ := List.getElem?_of_mem hv
  obtain ⟨ms, h1, h2⟩ := h.at hi
  exact ⟨ms, List.mem_of_getElem? h1, h2⟩
def tupD (ms : List Nat) : PyData := .tuple (natD ms)
theorem natD_ints (ms : List Nat) : natD ms = (intL ms).map PyData.int := by
  unfold natD
  rw [List.map_map]
  rfl
theorem dp_tup {K : PySem.W.Frag} {H : Hp} {t : Addr} {ms : List Nat} (h : SqT K H t (setV ms)) : Dp K H (.ref t) (tupD ms) := .tup h (dp_set ms)
theorem RowsL.dp {K : PySem.W.Frag} {H : Hp} {ts : List V} {rows : List (List Nat)} (h : RowsL K H ts rows) : DpAll K H ts (rows.map tupD) := by
  unfold RowsL at h
  induction h with
  | nil => exact .nil
  | cons a _ ih =>
    obtain ⟨t, rfl, ht⟩ := a
    exact .cons (dp_tup ht) ih
theorem RowsL.pairs {K : PySem.W.Frag} {H : Hp} {ts : List V} {rows : List (List Nat)} (h : RowsL K H ts rows) : ∃ bs : List (V × PyData), bs.map (·.1) = ts ∧ bs.map (·.2) = rows.map tupD ∧ ∀ b ∈ bs, Dp K H b.1 b.2 := by
  unfold RowsL at h
  induction h with
  | nil => exact ⟨[], rfl, rfl, fun _ hb => absurd hb List.not_mem_nil⟩
  | @cons v ms _ _ a _ ih =>
    obtain ⟨t, rfl, ht⟩ := a
    obtain ⟨bs, e1, e2, e3⟩ := ih
    refine ⟨(.ref t, tupD ms) :: bs, by rw [List.map_cons, e1], by rw [List.map_cons, e2]; rfl, fun b hb => ?_⟩
    rcases List.mem_cons.mp hb with rfl | hb
    · exact dp_tup ht
    · exact e3 b hb
theorem alike_tup (xs ys : List Nat) : PySem.W.alike (tupD xs) (tupD ys) = true := by
  unfold tupD
  rw [natD_ints, natD_ints]
  exact PySem.W.alike_ints _ _
theorem depth_tup (ms : List Nat) : (tupD ms).depth ≤ 20 := by
  unfold tupD
  rw [natD_ints]
  have : (PyData.tuple ((intL ms).map PyData.int)).depth = PyData.depthAll ((intL ms).map PyData.int) + 1 := rfl
  rw [this, PySem.W.depth_ints]
  decide
theorem dLe_tup {u v : V} {xs ys : List Nat} (h : LexLe xs ys) : dLe (u, tupD xs) (v, tupD ys) = true := by
  unfold tupD
  rw [natD_ints, natD_ints, dLe_ints, decide_eq_false h]
  rfl
theorem asc_pairs : ∀ {bs : List (V × PyData)} {rows : List (List Nat)}, bs.map (·.2) = rows.map tupD → rows.Pairwise LexLe → bs.Pairwise fun a b => dLe a b = true
  | [], _, _, _ => List.Pairwise.nil
  | _ :: _, [], e, _ => by cases e
  | (u, d) :: bs, ms :: rows, e, h => by
    obtain ⟨rfl, e2⟩ := List.cons.inj e
    obtain ⟨h1, h2⟩ := List.pairwise_cons.mp h
    refine List.pairwise_cons.mpr ⟨fun b hb => ?_, asc_pairs e2 h2⟩
    have hb2 : b.2 ∈ rows.map tupD := by
      rw [← e2]
      exact List.mem_map.mpr ⟨b, hb, rfl⟩
    obtain ⟨m2, hm2, eb⟩ := List.mem_map.mp hb2
    obtain ⟨bu, bd⟩ := b
    obtain rfl : tupD m2 = bd := eb
    exact dLe_tup (h1 m2 hm2)
/-- sorted of ascending rows -/
theorem sort_rows {K : PySem.W.Frag} {H : Hp} {a : Addr} {ts : List V} {rows : List (List Nat)} {Q : VK} (hL : SqL K H a ts) (r : RowsL K H ts rows) (asc : rows.Pairwise LexLe) (ne : ∀ ms ∈ rows, ms ≠ []) (q : ∀ p, H p = none → Q (.ref p) (upd H p (.lst ts))) : rSortD K [.ref a] H Q := by
  obtain ⟨bs, e1, e2, e3⟩ := r.pairs
  refine ⟨a, bs, rfl, by rw [e1]; exact hL, e3, ?_, ?_, fun b hb => ?_, fun p np => ?_⟩
  · rw [e2]
    intro d hd d' hd'
    obtain ⟨x, _, rfl⟩ := List.mem_map.mp hd
    obtain ⟨y, _, rfl⟩ := List.mem_map.mp hd'
    exact alike_tup x y
  · rw [e2]
    refine .inl fun d hd => ?_
    obtain ⟨ms, hm, rfl⟩ := List.mem_map.mp hd
    cases ms with
    | nil => exact absurd rfl (ne [] hm)
    | cons m r => exact ⟨_, _, rfl⟩
  · have hb2 : b.2 ∈ rows.map tupD := by
      rw [← e2]
      exact List.mem_map.mpr ⟨b, hb, rfl⟩
    obtain ⟨ms, _, e⟩ := List.mem_map.mp hb2
    rw [← e]
    exact depth_tup ms
  · rw [dsort_id (asc_pairs e2 asc), e1]
    exact q p np
theorem sh_rows {d : Nat} : ∀ {rows : List (List Nat)}, (∀ r ∈ rows, r.length ≤ d ∧ ∀ x ∈ r, x < 60) → ShAll 1 ((7 * d + 1) * rows.length) (rows.map tupD)
  | [], _ => ShAll.nil.mono (by decide) (Nat.zero_le _)
  | r :: rows, h => by
    obtain ⟨h1, h2⟩ := h r List.mem_cons_self
    have a := sh_nat (b := 6) (by decide) (by decide) (ms := r) fun x hx => by
      have := h2 x hx
      omega
    have b := Sh.tup a
    have m1 : (6 + 1) * r.length ≤ 7 * d := Nat.mul_le_mul_left 7 h1
    have c := ShAll.cons (b.mono (Nat.le_refl _) m1) (sh_rows fun r' hr => h r' (List.mem_cons_of_mem _ hr))
    refine c.mono (Nat.le_refl _) ?_
    show 7 * d + 1 + (7 * d + 1) * rows.length ≤ (7 * d + 1) * (rows.length + 1)
    rw [Nat.mul_succ]
    omega
theorem hide_upd {D : Addr} {H5 H6 : Hp} {o : HO} (s : Same H5 H6) : Same (hide D H5) (hide D (upd H6 D o)) := fun b x e => by
  by_cases h : b = D
  · unfold hide at e
    rw [if_pos h] at e
    cases e
  · rw [hide_ne h] at e ⊢
    rw [upd_ne h]
    exact s b x e
/-- one more row behind a list that is being made -/
theorem RowsL.grow {K : PySem.W.Frag} {D t : Addr} {H5 H6 : Hp} {ts : List V} {rows : List (List Nat)} {ms : List Nat} {o : HO} (s : Same H5 H6) (h : RowsL K (hide D H5) ts rows) (nt : t ≠ D) (ht : H6 t = some (.tup (setV ms))) : RowsL K (hide D (upd H6 D o)) (ts ++ [V.ref t]) (rows ++ [ms]) :=
  RowsL.app (h.same (hide_upd s)) (.cons ⟨t, rfl, SqT.of (by rw [hide_ne nt, upd_ne nt]; exact ht)⟩ .nil)
theorem RowsL.show {K : PySem.W.Frag} {D : Addr} {H : Hp} {ts : List V} {rows : List (List Nat)} (h : RowsL K (hide D H) ts rows) : RowsL K H ts rows := h.same (hide_same D H)
theorem range_rows {α : Type} (f : Nat → α) (z : Nat) : (List.range (z + 1)).map f = (List.range z).map f ++ [f z] := by
  rw [List.range_succ, List.map_append]
  rfl
/-! ### tables: tuples of tuples of servers -/
theorem paired_app {α β : Type} {R : α → β → Prop} {xs ys : List α} {L M : List β} (h : PySem.Paired R xs L) (g : PySem.Paired R ys M) : PySem.Paired R (xs ++ ys) (L ++ M) := by
  induction h with
  | nil => exact g
  | cons a _ ih => exact .cons a ih
/-- a tuple of tuples of servers -/
def TabAt (K : PySem.W.Frag) (H : Hp) (a : Addr) (rows : List (List Nat)) : Prop := ∃ ts : List V, SqT K H a ts ∧ PySem.Paired (fun v ms => ∃ t, v = V.ref t ∧ SqT K H t (setV ms)) ts rows
def stdRows (n d c : Nat) : List (List Nat) := (List.range c).map fun k => (path n d c k).1
theorem TabAt.same {K : PySem.W.Frag} {H H' : Hp} {a : Addr} {rows : List (List Nat)} (s : Same H H') (h : TabAt K H a rows) : TabAt K H' a rows := by
  obtain ⟨ts, h1, h2⟩ := h
  exact ⟨ts, Same.seqT s h1, PySem.Paired.mono (fun v ms ⟨t, e, z⟩ => ⟨t, e, Same.seqT s z⟩) h2⟩
/-! ### check_reached -/
theorem cut_takeR (xs : List V) (j : Nat) : cutV xs none (some (j : Int)) = xs.take j := by
  unfold cutV
  rw [HT.sIx_none, show HT.sIx xs.length xs.length (some (j : Int)) = min j xs.length from HT.sIx_nat xs.length xs.length j]
  show ((xs.drop 0).take (min j xs.length - 0)) = xs.take j
  rw [List.drop_zero, Nat.sub_zero, ← List.take_eq_take_min]
def spChkR (K : PySem.W.Frag) (CS : Addr) : Sp := fun vs H Q E => ∃ (n f k : Nat) (a : Addr) (ts : List V) (rows : List (List Nat)), vs = [.int n, .ref a, .int f, .int k] ∧ SqT K H a ts ∧ RowsL K H ts rows ∧
  ((∀ r, rows.head? = some r → min n (f + k) ≤ r.length) → ∀ H', Same H H' → Q .non H') ∧
  (∀ (r : List Nat) (t : Addr), rows.head? = some r → ts.head? = some (.ref t) → r.length < min n (f + k) → Raised "order" CS (.ref t) H E)
section
variable {P : Program} {w : World} {K : PySem.W.Frag} {mg : Str → Option Value} {base : Heap}
theorem ok_chkr (T : Txt K mg) {j : Nat} : FnOk P w K mg base (L2.CX P w) (j + 3) T.fChkR T.fdChkR ["n", "table", "failures", "factor"] (spChkR K T.cTooS) := by
  refine T.FChkR.okX scChkR (fun vs H Q E h => ?_) (fun cdv A outer s H vs Q E hr h => ?_)
  · obtain ⟨n, f, k, a, ts, rows, rfl, _⟩ := h
    rfl
  · obtain ⟨n, f, k, a, ts, rows, rfl, hA, R0, q1, q2⟩ := h
    refine ⟨_, pss_one (ps_for (passes_of rfl) rfl (pi_tup (pe_slice (sl_tupS K) (pv 1) po_none (po_some pe_int))) (pg_name (i := 4) scChkR.nd rfl (.inl rfl)) (pss_one (ps_if (pt_cmpR op_lt (pe_callB (call_lenK K) (by rfl) T.n_len PySem.boot_len (pa_cons (pv 4) pa_nil)) (pe_call (ok_reachof T) hr (by rfl) T.gReachOf T.FReachOf.kp T.bReachOf .nil pass0 (pa_cons (pv 0) (pa_cons (pv 2) (pa_cons (pv 3) pa_nil)))) (nomark _)) (pss_one (ps_raise rfl (takes_of rfl rfl rfl rfl) (pmk_oex T.eTooS.ox T.eTooS.iC T.eTooS.tI (ok_toos T) hr T.bTooS .nil pass0 (by rfl) T.gcTooS (pa_cons (pv 4) pa_nil)))) pss_nil))), ?_⟩
    refine ⟨.ref a, rfl, _, rfl, a, _, rfl, hA, fun p H1 s1 hp => ?_⟩
    rw [show (1 : Int) = ((1 : Nat) : Int) from rfl, cut_takeR] at hp
    refine ⟨p, rfl, ⟨_, hp⟩, for_tup (K := K) (a := p) (xs := ts.take 1) (fun i σ H2 => ∃ v4, σ = [some (.int n), some (.ref a), some (.int f), some (.int k), v4] ∧ Same H1 H2 ∧ (i = 1 → ∀ r, rows.head? = some r → min n (f + k) ≤ r.length)) ⟨none, rfl, Same.refl _, fun z => absurd z (by decide)⟩ (fun i σ H2 _ ⟨_, _, s2, _⟩ => Same.seqT s2 hp) ?_ ?_⟩
    · rintro i v σ H2 hz ⟨v4, rfl, s2, ok⟩
      rw [List.getElem?_take] at hz
      split at hz
      · rename_i hi
        obtain rfl : i = 0 := by omega
        have s02 := s1.trans s2
        obtain ⟨r, hr0, t, rfl, ht⟩ := (R0.same s02).at hz
        have e1 : rows.head? = some r := by rw [List.head?_eq_getElem?]; exact hr0
        have e2 : ts.head? = some (.ref t) := by rw [List.head?_eq_getElem?]; exact hz
        refine ⟨.ref t, rfl, t, _, rfl, .inr ht, _, rfl, _, rfl, _, rfl, n, f, k, rfl, _, _, rfl, rfl, _, rfl, ite2 (fun h1 => ?_) (fun h1 => ?_)⟩
        · have h2 : r.length < min n (f + k) := by
            have h3 : ((setV r).length : Int) < ((min n (f + k) : Nat) : Int) := of_decide_eq_true h1
            rw [setV_len] at h3
            omega
          refine ⟨.ref t, rfl, (by show 1 ≤ 1000; decide), fun e ne => ⟨e, .ref t, rfl, upd_same, fun dx nd nx => ?_⟩⟩
          obtain ⟨x1, x2, x3, x4, x5⟩ := err_end (f := "order") (v := .ref t) ne nd nx
          exact ⟨rfl, dx, _, x1, x2, x3, q2 r t e1 e2 h2 _ dx (s02.trans x4) x5 (s02.free x3)⟩
        · refine ⟨_, rfl, s2, fun _ r' hr' => ?_⟩
          rw [e1] at hr'
          obtain rfl := Option.some.inj hr'
          have h3 : ¬ ((setV r).length : Int) < ((min n (f + k) : Nat) : Int) := fun z => h1 (decide_eq_true z)
          rw [setV_len] at h3
          omega
      · cases hz
    · rintro σ H2 ⟨v4, rfl, s2, ok⟩
      refine q1 (fun r hr => ?_) _ (s1.trans s2)
      refine ok ?_ r hr
      have : rows ≠ [] := fun e => by
        rw [e] at hr
        cases hr
      have h1 := List.length_pos_iff.mpr this
      rw [List.length_take, R0.len]
      omega
end
/-! ### is_even, of a table that is too short -/
def spShort20 (K : PySem.W.Frag) (CS : Addr) : Sp := fun vs H Q E => ∃ (n f k : Nat) (a t : Addr) (ts : List V) (rows : List (List Nat)) (r : List Nat), vs = [.int n, .ref a, .int f, .int k] ∧ SqT K H a ts ∧ RowsL K H ts rows ∧ rows.head? = some r ∧ ts.head? = some (.ref t) ∧ r.length < min n (f + k) ∧ Raised "order" CS (.ref t) H E
section
variable {P : Program} {w : World} {K : PySem.W.Frag} {mg : Str → Option Value} {base : Heap}
theorem ok_iseven (T : Txt K mg) {j : Nat} : FnOk P w K mg base (L2.CX P w) (j + 5) T.fIsEven T.fdIsEven ["n", "table", "failures", "factor"] (spShort20 K T.cTooS) := by
  refine T.FIsEven.okX scIsEven (fun vs H Q E h => ?_) (fun cdv A outer s H vs Q E hr h => ?_)
  · obtain ⟨n, f, k, a, t, ts, rows, r, rfl, _⟩ := h
    rfl
  · obtain ⟨n, f, k, a, t, ts, rows, r, rfl, hA, R0, hr0, ht0, sh, q⟩ := h
    refine ⟨_, pss_cons (ps_expr (pe_call (ok_chkr T) hr (by rfl) T.gChkR T.FChkR.kp T.bChkR .nil (passes_call (takes_of rfl rfl rfl rfl) (fun _ _ _ _ h => h)) (pa_cons (pv 0) (pa_cons (pv 1) (pa_cons (pv 2) (pa_cons (pv 3) pa_nil)))))) (pss_one (ps_ret (pe_cmpR op_isN (pe_call (ok_fulev T) hr (by rfl) T.gFULev T.FFULev.kp T.bFULev .nil pass0 (pa_cons (pv 0) (pa_cons (pv 1) (pa_cons (pv 2) (pa_cons (pv 3) pa_nil))))) pe_non (nomark _)))), ?_⟩
    refine ⟨_, rfl, .ref a, rfl, _, rfl, _, rfl, n, f, k, a, ts, rows, rfl, hA, R0, fun ok H1 s1 => ?_, fun r' t' h1 h2 h3 => ?_⟩
    · have := ok r hr0
      omega
    · rw [ht0] at h2
      injection Option.some.inj h2 with h2
      subst h2
      exact q
end
/-! ### uneven, of a table that is too short -/
section
variable {P : Program} {w : World} {K : PySem.W.Frag} {mg : Str → Option Value} {base : Heap}
theorem ok_unev (T : Txt K mg) {j : Nat} : FnOk P w K mg base (L2.CX P w) (j + 5) T.fUnev T.fdUnev ["n", "table", "failures", "factor"] (spShort20 K T.cTooS) := by
  refine T.FUnev.okX scUnev (fun vs H Q E h => ?_) (fun cdv A outer s H vs Q E hr h => ?_)
  · obtain ⟨n, f, k, a, t, ts, rows, r, rfl, _⟩ := h
    rfl
  · obtain ⟨n, f, k, a, t, ts, rows, r, rfl, hA, R0, hr0, ht0, sh, q⟩ := h
    refine ⟨_, pss_cons (ps_expr (pe_call (ok_chkr T) hr (by rfl) T.gChkR T.FChkR.kp T.bChkR .nil (passes_call (takes_of rfl rfl rfl rfl) (fun _ _ _ _ h => h)) (pa_cons (pv 0) (pa_cons (pv 1) (pa_cons (pv 2) (pa_cons (pv 3) pa_nil)))))) (pss_cons (ps_set (i := 4) scUnev.nd rfl (.inl rfl) (pe_call (ok_fulev T) hr (by rfl) T.gFULev T.FFULev.kp T.bFULev .nil pass0 (pa_cons (pv 0) (pa_cons (pv 1) (pa_cons (pv 2) (pa_cons (pv 3) pa_nil)))))) (pss_cons (ps_if (pt_cmpR op_isN (pv 4) pe_non (nomark _)) (pss_one (ps_ret pe_non)) pss_nil) (pss_one (ps_ret (pe_call (ok_witn T) hr (by rfl) T.gWitn T.FWitn.kp T.bWitn .nil pass0 (pa_cons (pv 0) (pa_cons (pv 1) (pa_cons (pv 4) (pa_cons (pv 3) pa_nil))))))))), ?_⟩
    refine ⟨_, rfl, .ref a, rfl, _, rfl, _, rfl, n, f, k, a, ts, rows, rfl, hA, R0, fun ok H1 s1 => ?_, fun r' t' h1 h2 h3 => ?_⟩
    · have := ok r hr0
      omega
    · rw [ht0] at h2
      injection Option.some.inj h2 with h2
      subst h2
      exact q
end
/-! ### is_claim, of three sets {0} -/
def spClaim20 (K : PySem.W.Frag) : Sp := fun vs H Q _ => ∃ (n f k : Nat) (t l x y : Addr), vs = [.int n, .int f, .int k, .ref t] ∧ H t = some (.tup [.ref l, .ref x, .ref y]) ∧ SqT K H l (setV [0]) ∧ SqT K H x (setV [0]) ∧ SqT K H y (setV [0]) ∧ f + 1 < n ∧ Q (.bl false) H
section
variable {P : Program} {w : World} {K : PySem.W.Frag} {mg : Str → Option Value} {base : Heap}
theorem ok_isclaim (T : Txt K mg) {j : Nat} : FnOk P w K mg base CX0 (j + 3) T.fIsClaim T.fdIsClaim ["n", "failures", "factor", "thing"] (spClaim20 K) := by
  refine T.FIsClaim.ok scIsClaim (fun vs H Q E h => ?_) (fun cdv A0 outer s H vs Q E hr h => ?_)
  · obtain ⟨n, f, k, t, l, x, y, rfl, _⟩ := h
    rfl
  · obtain ⟨n, f, k, t, l, x, y, rfl, ht, hL, hX, hY, fn, q⟩ := h
    refine ⟨_, pss_cons (ps_if (PW.pt (pw_or (pt_not (pt_val (pe_callB (call_isiK1 K) (by rfl) T.n_isinstance (by decide +kernel) (pa_cons (pv 3) (pa_cons (pe_bltn (v := .ty "tuple") (by rfl) T.n_tuple (by decide +kernel) rfl) pa_nil))))) (pw_or1 (pt_cmpR op_ne (pe_callB (call_lenK K) (by rfl) T.n_len PySem.boot_len (pa_cons (pv 3) pa_nil)) pe_int (nomark _))))) (pss_one (ps_ret pe_bl)) pss_nil) (pss_cons (ps_for PassesOwn.never rfl (pi_tup (pv 3)) (pg_name (i := 4) scIsClaim.nd rfl (.inl rfl)) (pss_one (ps_if (pt_not (pt_val (pe_call (ok_set T) hr (by rfl) T.gSet T.FSet.kp T.bSet .nil pass0 (pa_cons (pv 0) (pa_cons (pv 4) pa_nil))))) (pss_one (ps_ret pe_bl)) pss_nil))) (pss_cons (ps_asg (pv 3) (pg_tup rfl (pgs_cons (pg_name (i := 5) scIsClaim.nd rfl (.inl rfl)) (pgs_cons (pg_name (i := 6) scIsClaim.nd rfl (.inl rfl)) (pgs_cons (pg_name (i := 7) scIsClaim.nd rfl (.inl rfl)) pgs_nil))))) (pss_cons (ps_if (PW.pt (pw_or (pt_cmpR op_lt (pe_callB (call_lenK K) (by rfl) T.n_len PySem.boot_len (pa_cons (pv 5) pa_nil)) (pe_op op_sub (pv 0) (pv 1)) (nomark _)) (pw_or1 (pt_cmpR op_gt (pe_callB (call_lenSet (w := w)) (by rfl) T.n_len PySem.boot_len (pa_cons (pe_op (op_setSub (w := w)) (pe_callTy (cr_setTn (K := K) (w := w) rfl) (by rfl) T.n_set (by decide +kernel) (pa_cons (pe_op (op_catS K) (pv 6) (pv 7)) pa_nil)) (pe_callTy (cr_setTn (K := K) (w := w) rfl) (by rfl) T.n_set (by decide +kernel) (pa_cons (pv 5) pa_nil))) pa_nil)) pe_int (nomark _))))) (pss_one (ps_ret pe_bl)) pss_nil) (pss_one (ps_ret (pe_and (pe_cmpR op_eq (pe_callB (call_lenK K) (by rfl) T.n_len PySem.boot_len (pa_cons (pv 6) pa_nil)) (pe_callB (call_lenK K) (by rfl) T.n_len PySem.boot_len (pa_cons (pv 7) pa_nil)) (nomark _)) (pe_one (pe_chain op_le op_le pe_int (pe_callB (call_lenK K) (by rfl) T.n_len PySem.boot_len (pa_cons (pv 6) pa_nil)) (pe_callB (call_min2 rfl) (by rfl) T.n_min (by decide +kernel) (pa_cons (pv 2) (pa_cons (pe_callB (call_lenK K) (by rfl) T.n_len PySem.boot_len (pa_cons (pv 5) pa_nil)) pa_nil))))))))))), ?_⟩
    have dt : Dp K H (.ref t) (.tuple [.tuple (natD [0]), .tuple (natD [0]), .tuple (natD [0])]) := .tup (SqT.of ht) (.cons (.tup hL (dp_set _)) (.cons (.tup hX (dp_set _)) (.cons (.tup hY (dp_set _)) .nil)))
    have item : ∀ (i : Nat) (v : V), [V.ref l, V.ref x, V.ref y][i]? = some v → ∃ z, v = .ref z ∧ SqT K H z (setV [0]) := fun i v hv => by
      match i, hv with
      | 0, hv =>
        obtain rfl := Option.some.inj (show some (V.ref l) = some v from hv)
        exact ⟨l, rfl, hL⟩
      | 1, hv =>
        obtain rfl := Option.some.inj (show some (V.ref x) = some v from hv)
        exact ⟨x, rfl, hX⟩
      | 2, hv =>
        obtain rfl := Option.some.inj (show some (V.ref y) = some v from hv)
        exact ⟨y, rfl, hY⟩
      | i + 3, hv => simp at hv
    refine ⟨.ref t, rfl, .ref t, .ty "tuple", _, _, _, rfl, .ty _, Ef.Dp.ty dt, kit_tuple (tyN_in _), _, rfl, iteF ?_⟩
    refine ⟨.ref t, rfl, t, _, rfl, .inr (SqT.of ht), rfl, _, rfl, iteNS rfl ?_⟩
    refine ⟨.ref t, rfl, t, rfl, ⟨_, SqT.of ht⟩, ?_⟩
    refine for_tup (K := K) (a := t) (xs := [V.ref l, V.ref x, V.ref y]) (fun i σ H2 => ∃ v4, σ = [some (.int (n : Int)), some (.int (f : Int)), some (.int (k : Int)), some (.ref t), v4, none, none, none] ∧ H2 = H) ⟨none, rfl, rfl⟩ (fun i σ H2 _ ⟨_, _, e⟩ => e ▸ SqT.of ht) ?_ ?_
    · rintro i v σ H2 hv ⟨v4, rfl, rfl⟩
      obtain ⟨z, rfl, hz⟩ := item i v hv
      dsimp only [gName]
      refine ⟨_, rfl, .ref z, rfl, n, .ref z, .tuple (natD [0]), rfl, .inl ⟨.tup hz (dp_set _), (sh_list (by decide) (by decide)).mono (by decide) (by decide)⟩, ?_⟩
      rw [show setD (n : Int) (.tuple (natD [0])) = true by
        show (decide ((0 : Int) ≤ 0) && (decide ((0 : Int) < (n : Int)) && true)) = true
        rw [decide_eq_true (Int.le_refl 0), decide_eq_true (by omega)]
        rfl]
      exact ⟨_, rfl, iteF ⟨_, rfl, rfl⟩⟩
    rintro σ H2 ⟨v4, rfl, rfl⟩
    refine ⟨.ref t, rfl, t, _, rfl, SqT.of ht, rfl, ?_⟩
    dsimp only [gCons, gName, gNil]
    refine ⟨_, _, rfl, _, _, rfl, _, _, rfl, rfl, ?_⟩
    refine ⟨.ref l, rfl, l, _, rfl, .inr hL, _, rfl, _, rfl, _, _, rfl, rfl, _, _, rfl, rfl, _, rfl, ?_⟩
    rw [show decide ((((setV [0]).length : Nat) : Int) < (n : Int) - (f : Int)) = true from decide_eq_true (by show ((1 : Nat) : Int) < _; omega)]
    exact iteT q
end
/-! ### shows_uneven, of a table that is too short; or of three sets {0} -/
def spShows20 (K : PySem.W.Frag) (CS : Addr) : Sp := fun vs H Q E => ∃ (n f k : Nat) (a : Addr) (ts : List V) (rows : List (List Nat)) (r : List Nat) (u : Addr) (v : V), vs = [.int n, .ref a, .int f, .int k, v] ∧ SqT K H a ts ∧ RowsL K H ts rows ∧ rows.head? = some r ∧ ts.head? = some (.ref u) ∧
  (r.length < min n (f + k) → Raised "order" CS (.ref u) H E) ∧
  (min n (f + k) ≤ r.length → (∃ t l x y : Addr, v = .ref t ∧ H t = some (.tup [.ref l, .ref x, .ref y]) ∧ SqT K H l (setV [0]) ∧ SqT K H x (setV [0]) ∧ SqT K H y (setV [0])) ∧ f + 1 < n ∧ ∀ H', Same H H' → Q (.bl false) H')
section
variable {P : Program} {w : World} {K : PySem.W.Frag} {mg : Str → Option Value} {base : Heap}
theorem ok_showsu (T : Txt K mg) {j : Nat} : FnOk P w K mg base (L2.CX P w) (j + 5) T.fShowsU T.fdShowsU ["n", "table", "failures", "factor", "thing"] (spShows20 K T.cTooS) := by
  refine T.FShowsU.okX scShowsU (fun vs H Q E h => ?_) (fun cdv A outer s H vs Q E hr h => ?_)
  · obtain ⟨n, f, k, a, ts, rows, r, u, v, rfl, _⟩ := h
    rfl
  · obtain ⟨n, f, k, a, ts, rows, r, u, v, rfl, hA, R0, hr0, ht0, q1, q2⟩ := h
    have hu9 : (A.deeper (envOfC "shows_uneven" (defScope sShowsU) s.heap.objs.size T.fShowsU cdv)).units + 9 < cLine := by
      have := hr.un
      omega
    refine ⟨_, pss_cons (ps_expr (pe_call (ok_chkr T) hr (by rfl) T.gChkR T.FChkR.kp T.bChkR .nil (passes_call (takes_of rfl rfl rfl rfl) (fun _ _ _ _ h => h)) (pa_cons (pv 0) (pa_cons (pv 1) (pa_cons (pv 2) (pa_cons (pv 3) pa_nil)))))) (pss_cons (ps_if (pt_not (pt_val (pe_call (ok_isclaim T) hr (by rfl) T.gIsClaim T.FIsClaim.kp T.bIsClaim .nil pass0 (pa_cons (pv 0) (pa_cons (pv 2) (pa_cons (pv 3) (pa_cons (pv 4) pa_nil))))))) (pss_one (ps_ret pe_bl)) pss_nil) (pss_cons (ps_asg (pv 4) (pg_tup rfl (pgs_cons (pg_name (i := 5) scShowsU.nd rfl (.inl rfl)) (pgs_cons (pg_name (i := 6) scShowsU.nd rfl (.inl rfl)) (pgs_cons (pg_name (i := 7) scShowsU.nd rfl (.inl rfl)) pgs_nil))))) (pss_cons (ps_set (i := 8) scShowsU.nd rfl (.inl rfl) (pe_call (ok_helds T) hr (by rfl) T.gHelds T.FHelds.kp T.bHelds .nil pass0 (pa_cons (pv 1) (pa_cons (pv 5) (pa_cons (pe_callB (call_lenK K) (by rfl) T.n_len PySem.boot_len (pa_cons (pv 6) pa_nil)) pa_nil))))) (pss_one (ps_ret (pe_cmpR op_lt (pe_bmN (P := P) (w := w) PySem.F.slot_dict_get PySem.F.type_dict_get (mt_getDN (P := P) (w := w) K hu9) (pv 8) (pa_cons (pv 6) (pa_cons pe_int pa_nil))) (pe_bmN (P := P) (w := w) PySem.F.slot_dict_get PySem.F.type_dict_get (mt_getDN (P := P) (w := w) K hu9) (pv 8) (pa_cons (pv 7) (pa_cons pe_int pa_nil))) (nomark _))))))), ?_⟩
    refine ⟨_, rfl, .ref a, rfl, _, rfl, _, rfl, n, f, k, a, ts, rows, rfl, hA, R0, fun ok H1 s1 => ?_, fun r' t' h1 h2 h3 => ?_⟩
    · obtain ⟨⟨t, l, x, y, rfl, ht, hL, hX, hY⟩, fn, q⟩ := q2 (ok r hr0)
      refine ⟨_, rfl, _, rfl, _, rfl, .ref t, rfl, n, f, k, t, l, x, y, rfl, s1 _ _ ht, Same.seqT s1 hL, Same.seqT s1 hX, Same.seqT s1 hY, fn, ?_⟩
      exact ⟨_, rfl, iteT (q H1 s1)⟩
    · rw [hr0] at h1
      obtain rfl := Option.some.inj h1
      rw [ht0] at h2
      injection Option.some.inj h2 with h2
      subst h2
      exact q1 h3
end
/-! ### the law's pot of drawn numbers -/
def PotAt (H : Hp) (p : Addr) (m : Nat) : Prop := ∃ a b c : Int, H p = some (.lst [.int a, .int b, .int c]) ∧ (0 ≤ a ∧ a < 10 ^ 300) ∧ (0 ≤ b ∧ b < 2305843009213693951) ∧ 0 ≤ c ∧ c ≤ (m : Int)
theorem PotAt.mono {H : Hp} {p : Addr} {m n : Nat} (h : PotAt H p m) (l : m ≤ n) : PotAt H p n := by
  obtain ⟨a, b, c, h1, h2, h3, h4, h5⟩ := h
  exact ⟨a, b, c, h1, h2, h3, h4, by omega⟩
theorem PotAt.same {H H' : Hp} {p : Addr} {m : Nat} (h : PotAt H p m) (s : Same H H') : PotAt H' p m := by
  obtain ⟨a, b, c, h1, h2⟩ := h
  exact ⟨a, b, c, s _ _ h1, h2⟩
theorem PotAt.ne {H : Hp} {p q : Addr} {m : Nat} (h : PotAt H p m) (n : H q = none) : p ≠ q := by
  obtain ⟨a, b, c, h1, _⟩ := h
  exact ne_of_none h1 n
def spPot (K : PySem.W.Frag) : Sp := fun vs H Q _ => ∃ (a : Addr) (ns : List Int) (i : Nat), vs = [.ref a, .int i] ∧ SqL K H a (ns.map V.int) ∧ i ≤ 100 ∧ ∀ H' p, Same H H' → H p = none → PotAt H' p 0 → Q (.ref p) H'
def spTake : Sp := fun vs H Q _ => ∃ (p : Addr) (m : Nat) (u : Int), vs = [.ref p, .int u] ∧ PotAt H p m ∧ m ≤ 1000000 ∧ 1 ≤ u ∧ u < 2 ^ 1000 ∧
  ∀ (r : Int) (H' : Hp), 0 ≤ r → r < u → PotAt H' p (m + 1) → But p H H' → Q (.int r) H'
theorem own_ok (x : Int) (c : Bool) : 0 ≤ x % ((10 : Int) ^ (60 : Int).toNat) ^ (5 : Int).toNat * (if c then 1 else 0) ∧ x % ((10 : Int) ^ (60 : Int).toNat) ^ (5 : Int).toNat * (if c then 1 else 0) < 10 ^ 300 := by
  have e : ((10 : Int) ^ (60 : Int).toNat) ^ (5 : Int).toNat = 10 ^ 300 := by decide +kernel
  rw [e]
  have h1 := Int.emod_nonneg x (show (10 : Int) ^ 300 ≠ 0 by decide +kernel)
  have h2 := Int.emod_lt_of_pos x (show (0 : Int) < 10 ^ 300 by decide +kernel)
  cases c with
  | true =>
    rw [if_pos rfl, Int.mul_one]
    exact ⟨h1, h2⟩
  | false =>
    rw [if_neg (by decide), Int.mul_zero]
    exact ⟨Int.le_refl _, by decide +kernel⟩
theorem big_pos : (0 : Int) < ((10 : Int) ^ (60 : Int).toNat) ^ (5 : Int).toNat := by decide +kernel
theorem bit_in (c : Bool) : -(2 ^ 64) < (if c then (1 : Int) else 0) ∧ (if c then (1 : Int) else 0) < 2 ^ 64 := by
  cases c <;> decide
theorem prime_at (i : Int) (h0 : 0 ≤ i) (h5 : i < 5) : ∃ v : Int, atI [V.int 2147483647, V.int 2147483629, V.int 2147483587, V.int 2147483579, V.int 2147483563] i = some (.int v) ∧ 0 < v ∧ v < 2 ^ 32 := by
  have h : i = 0 ∨ i = 1 ∨ i = 2 ∨ i = 3 ∨ i = 4 := by omega
  rcases h with rfl | rfl | rfl | rfl | rfl
  · exact ⟨2147483647, rfl, by decide, by decide⟩
  · exact ⟨2147483629, rfl, by decide, by decide⟩
  · exact ⟨2147483587, rfl, by decide, by decide⟩
  · exact ⟨2147483579, rfl, by decide, by decide⟩
  · exact ⟨2147483563, rfl, by decide, by decide⟩
section
variable {P : Program} {w : World} {K : PySem.W.Frag} {mg : Str → Option Value} {base : Heap}
theorem ok_pot (T : Txt K mg) {j : Nat} : FnOk P w K mg base CX0 (j + 1) T.fPot T.fdPot ["_law_script", "_law_k"] (spPot K) := by
  refine T.FPot.ok scPot (fun vs H Q E h => ?_) (fun cdv A outer s H vs Q E hr h => ?_)
  · obtain ⟨a, ns, i, rfl, _⟩ := h
    rfl
  · obtain ⟨a, ns, i, rfl, hS, hi, q⟩ := h
    refine ⟨_, pss_cons (ps_set (i := 2) scPot.nd rfl (.inl rfl) (pe_op op_add (pe_op op_mul pe_int (pv 1)) pe_int)) (C8.pss_cut (ps_if (pt_cmpR op_lt (pv 1) (pe_callB (call_lenK K) (by rfl) T.n_len PySem.boot_len (pa_cons (pv 0) pa_nil)) (nomark _)) (pss_one (ps_set (i := 2) scPot.nd rfl (.inl rfl) (pe_ix (ix_listK K) (pv 0) (pv 1) (fun _ _ => rfl)))) pss_nil) (pss_cons (ps_set (i := 3) scPot.nd rfl (.inl rfl) (pe_op op_mul (pe_op op_mod (pe_callB call_abs (by rfl) T.n_abs (by decide +kernel) (pa_cons (pv 2) pa_nil)) (pe_op op_powB (pe_op op_pow pe_int pe_int) pe_int)) (pe_callTy call_int1 (by rfl) T.n_int (by decide +kernel) (pa_cons (pe_cmpR op_ge (pe_callB call_abs (by rfl) T.n_abs (by decide +kernel) (pa_cons (pv 2) pa_nil)) (pe_op op_pow pe_int pe_int) (nomark _)) pa_nil)))) (pss_one (ps_ret (pe_lst (pa_cons (pv 3) (pa_cons (pe_op op_mod (pe_op op_add (pe_op op_add (pe_op op_mul (pe_op op_mod (pv 2) pe_int) pe_int) (pe_op op_mul (pe_op op_mul pe_int (pv 1)) (pv 1))) pe_int) pe_int) (pa_cons pe_int pa_nil)))))))), ?_⟩
    refine ⟨_, rfl, _, _, rfl, rfl, .inl ⟨by decide, by decide⟩, _, _, rfl, rfl, ?_⟩
    refine ⟨fun σ H2 => ∃ x : Int, σ = [some (.ref a), some (.int i), some (.int x), none] ∧ H2 = H, ?_, ?_⟩
    · refine ⟨_, rfl, .ref a, rfl, a, _, rfl, .inl hS, _, _, rfl, rfl, _, rfl, ite2 (fun h1 => ?_) (fun h1 => ?_)⟩
      · have hlt : i < ns.length := by
          have h2 := of_decide_eq_true h1
          rw [List.length_map] at h2
          omega
        exact ⟨.ref a, rfl, _, rfl, a, _, _, _, rfl, rfl, hS, atI_nat (v := V.int ns[i]) (by rw [List.getElem?_map, List.getElem?_eq_getElem hlt]; rfl), _, rfl, rfl⟩
      · exact ⟨_, rfl, rfl⟩
    · rintro σ H2 ⟨x, rfl, rfl⟩
      refine ⟨_, rfl, _, rfl, _, _, rfl, rfl, ⟨by decide, by decide, by decide⟩, _, _, rfl, rfl, ⟨by decide, by decide +kernel⟩, _, _, rfl, rfl, big_pos, _, rfl, _, rfl, _, _, rfl, rfl, ⟨by decide, by decide, by decide⟩, _, _, rfl, rfl, .inr ⟨_, rfl, _, _, rfl, rfl, .inr (bit_in _), ?_⟩⟩
      refine ⟨_, rfl, _, rfl, _, _, rfl, rfl, (show (0 : Int) < 2305843009213693951 by decide), _, _, rfl, rfl, .inr ⟨by decide, by decide⟩, _, rfl, _, _, rfl, rfl, .inl ⟨by decide, by decide⟩, _, rfl, _, _, rfl, rfl, .inr ⟨by omega, by omega⟩, _, _, rfl, rfl, _, _, rfl, rfl, _, _, rfl, rfl, (show (0 : Int) < 2305843009213693921 by decide), ?_⟩
      refine ⟨by show 3 ≤ sizeLine; decide, fun p np => ?_⟩
      refine q _ p (same_new np) np ⟨_, _, 0, upd_same, own_ok _ _, ⟨Int.emod_nonneg _ (by decide), Int.lt_trans (Int.emod_lt_of_pos _ (by decide)) (by decide)⟩, Int.le_refl _, Int.le_refl _⟩
theorem ok_take (T : Txt K mg) {j : Nat} : FnOk P w K mg base CX0 (j + 1) T.fTake T.fdTake ["_law_pot_here", "_law_size"] spTake := by
  refine T.FTake.ok scTake (fun vs H Q E h => ?_) (fun cdv A outer s H vs Q E hr h => ?_)
  · obtain ⟨p, m, u, rfl, _⟩ := h
    rfl
  · obtain ⟨p, m, u, rfl, ⟨a, b, c, hp, ha, hb, hc0, hcm⟩, hm, hu1, hu2, q⟩ := h
    refine ⟨_, pss_cons (ps_if (pt_cmpR op_gt (pe_ix (ix_listK K) (pv 0) pe_int (fun _ _ => rfl)) pe_int (nomark _)) (pss_cons (ps_set (i := 2) scTake.nd rfl (.inl rfl) (pe_op op_mod (pe_ix (ix_listK K) (pv 0) pe_int (fun _ _ => rfl)) (pv 1))) (pss_cons (ps_asg (pe_op op_fdivW (pe_ix (ix_listK K) (pv 0) pe_int (fun _ _ => rfl)) (pv 1)) (pg_sub (pv 0) pe_int set_list)) (pss_one (ps_ret (pv 2))))) pss_nil) (pss_cons (ps_asg (pe_op op_add (pe_ix (ix_listK K) (pv 0) pe_int (fun _ _ => rfl)) pe_int) (pg_sub (pv 0) pe_int set_list)) (pss_cons (ps_set (i := 3) scTake.nd rfl (.inl rfl) (pe_ix (ix_listK K) (pe_lst (pa_cons pe_int (pa_cons pe_int (pa_cons pe_int (pa_cons pe_int (pa_cons pe_int pa_nil)))))) (pe_op op_mod (pe_ix (ix_listK K) (pv 0) pe_int (fun _ _ => rfl)) pe_int) (fun _ _ => rfl))) (pss_cons (ps_set (i := 4) scTake.nd rfl (.inl rfl) (pe_op op_mod (pe_op op_pow (pe_op op_add (pe_op op_add (pe_ix (ix_listK K) (pv 0) pe_int (fun _ _ => rfl)) (pe_op op_mul (pe_op op_mul pe_int (pe_ix (ix_listK K) (pv 0) pe_int (fun _ _ => rfl))) (pe_ix (ix_listK K) (pv 0) pe_int (fun _ _ => rfl)))) pe_int) pe_int) (pv 3))) (pss_one (ps_ret (pe_op op_mod (pe_op op_fdiv (pe_op op_mod (pe_op op_mul (pv 4) (pe_op op_add (pe_op op_mod (pv 4) pe_int) (pe_op op_mul pe_int (pe_ix (ix_listK K) (pv 0) pe_int (fun _ _ => rfl))))) pe_int) pe_int) (pv 1))))))), ?_⟩
    refine ⟨.ref p, rfl, p, _, _, _, rfl, rfl, SqL.of hp, rfl, _, _, rfl, rfl, _, rfl, ite2 (fun h1 => ?_) (fun h1 => ?_)⟩
    · have h0 : 0 < a := of_decide_eq_true h1
      refine ⟨.ref p, rfl, p, _, _, _, rfl, rfl, SqL.of hp, rfl, _, rfl, _, _, rfl, rfl, by omega, ?_⟩
      refine ⟨.ref p, rfl, p, _, _, _, rfl, rfl, SqL.of hp, rfl, _, rfl, _, _, rfl, rfl, wide_div (b := 1000) (by omega) (by omega) (by decide) (by decide), ?_⟩
      refine ⟨.ref p, rfl, p, _, _, 0, rfl, rfl, hp, rfl, ?_⟩
      refine ⟨_, rfl, q _ _ (Int.emod_nonneg _ (by omega)) (Int.emod_lt_of_pos _ (by omega)) ⟨a / u, b, c, upd_same, ?_, hb, hc0, by omega⟩ (But.refl p H).upd⟩
      have h3 : a / u ≤ a := Int.ediv_le_self _ (by omega)
      exact ⟨Int.ediv_nonneg (by omega) (by omega), by omega⟩
    · refine ⟨.ref p, rfl, p, _, _, _, rfl, rfl, SqL.of hp, rfl, _, _, rfl, rfl, .ref p, rfl, p, _, _, 2, rfl, rfl, hp, rfl, ?_⟩
      have hp2 : (upd H p (.lst [V.int a, V.int b, V.int (c + 1)])) p = some (.lst [V.int a, V.int b, V.int (c + 1)]) := upd_same
      obtain ⟨v, ev, v0, v32⟩ := prime_at ((c + 1) % 5) (Int.emod_nonneg _ (by decide)) (Int.emod_lt_of_pos _ (by decide))
      refine ⟨by decide, fun l nl => ?_⟩
      have npl : p ≠ l := ne_of_none hp2 nl
      have hp3 : (upd (upd H p (.lst [V.int a, V.int b, V.int (c + 1)])) l (.lst [V.int 2147483647, V.int 2147483629, V.int 2147483587, V.int 2147483579, V.int 2147483563])) p = some (.lst [V.int a, V.int b, V.int (c + 1)]) := by
        rw [upd_ne npl]
        exact hp2
      refine ⟨.ref p, rfl, p, _, _, _, rfl, rfl, SqL.of hp3, rfl, _, _, rfl, rfl, (show (0 : Int) < 5 by decide), l, _, _, _, rfl, rfl, SqL.of upd_same, ev, ?_⟩
      refine ⟨.ref p, rfl, p, _, _, _, rfl, rfl, SqL.of hp3, rfl, .ref p, rfl, p, _, _, _, rfl, rfl, SqL.of hp3, rfl, _, _, rfl, rfl, .inl ⟨by decide, by decide⟩, .ref p, rfl, p, _, _, _, rfl, rfl, SqL.of hp3, rfl, _, _, rfl, rfl, .inr ⟨by omega, by omega⟩, _, _, rfl, rfl, _, _, rfl, rfl, _, _, rfl, rfl, ⟨by decide, by decide, ?_⟩, _, rfl, _, _, rfl, rfl, v0, ?_⟩
      · have h8 : 0 ≤ 104729 * (c + 1) * (c + 1) := Int.mul_nonneg (by omega) (by omega)
        have h9 : 104729 * (c + 1) * (c + 1) ≤ 104729 * 1000001 * 1000001 := Int.mul_le_mul (by omega) (by omega) (by omega) (by omega)
        have : (b + 104729 * (c + 1) * (c + 1) + 19).natAbs < 2 ^ 64 := by omega
        exact this
      · refine ⟨_, rfl, _, rfl, _, _, rfl, rfl, (show (0 : Int) < 10007 by decide), .ref p, rfl, p, _, _, _, rfl, rfl, SqL.of hp3, rfl, _, _, rfl, rfl, .inl ⟨by decide, by decide⟩, _, _, rfl, rfl, _, _, rfl, rfl, .inl ?_, _, _, rfl, rfl, (show (0 : Int) < 2305843009213693907 by decide), _, _, rfl, rfl, ⟨by decide, by decide⟩, _, rfl, _, _, rfl, rfl, by omega, ?_⟩
        · have h3 := Int.emod_nonneg ((b + 104729 * (c + 1) * (c + 1) + 19) ^ (3 : Int).toNat) (show v ≠ 0 by omega)
          have h4 := Int.emod_lt_of_pos ((b + 104729 * (c + 1) * (c + 1) + 19) ^ (3 : Int).toNat) v0
          exact ⟨by omega, by omega⟩
        · refine q _ _ (Int.emod_nonneg _ (by omega)) (Int.emod_lt_of_pos _ (by omega)) ⟨a, b, c + 1, hp3, ha, hb, by omega, by omega⟩ ?_
          exact (But.refl p H).upd.same (same_new nl)
end
/-! ### one of some -/
def spOf : Sp := fun vs H Q _ => ∃ (p : Addr) (m : Nat) (l : Addr) (xs : List V), vs = [.ref p, .ref l] ∧ PotAt H p m ∧ m ≤ 1000000 ∧ H l = some (.lst xs) ∧ l ≠ p ∧ 1 ≤ xs.length ∧ xs.length ≤ 1000 ∧
  ∀ (v : V) (H' : Hp), v ∈ xs → PotAt H' p (m + 1) → But p H H' → Q v H'
theorem pick_at {xs : List V} {r : Int} (h0 : 0 ≤ r) (hl : r < (xs.length : Int)) : ∃ v, v ∈ xs ∧ atI xs r = some v := by
  obtain ⟨k, rfl⟩ := Int.eq_ofNat_of_zero_le h0
  have hk : k < xs.length := by omega
  exact ⟨xs[k], List.getElem_mem hk, atI_nat (List.getElem?_eq_getElem hk)⟩
section
variable {P : Program} {w : World} {K : PySem.W.Frag} {mg : Str → Option Value} {base : Heap}
theorem ok_of (T : Txt K mg) {j : Nat} : FnOk P w K mg base CX0 (j + 2) T.fOf T.fdOf ["_law_pot_here", "_law_some"] spOf := by
  refine T.FOf.ok scOf (fun vs H Q E h => ?_) (fun cdv A outer s H vs Q E hr h => ?_)
  · obtain ⟨p, m, l, xs, rfl, _⟩ := h
    rfl
  · obtain ⟨p, m, l, xs, rfl, P0, hm, hl, hne, h1, h2, q⟩ := h
    refine ⟨_, pss_one (ps_ret (pe_ix ix_list (pv 1) (pe_call (ok_take T) hr (by rfl) T.gTake T.FTake.kp T.bTake .nil pass0 (pa_cons (pv 0) (pa_cons (pe_callB call_len_seq (by rfl) T.n_len PySem.boot_len (pa_cons (pv 1) pa_nil)) pa_nil))) (fun _ _ => rfl))), ?_⟩
    refine ⟨.ref l, rfl, .ref p, rfl, .ref l, rfl, l, _, rfl, .inl (SqL.of hl), p, m, _, rfl, P0, hm, by omega, ?_, fun r H' r0 rl P1 B1 => ?_⟩
    · exact Int.lt_trans (show (xs.length : Int) < 1001 by omega) (by decide +kernel)
    · obtain ⟨v, hv, ev⟩ := pick_at r0 rl
      exact ⟨l, xs, r, v, rfl, rfl, SqL.of (B1 _ _ hne hl), ev, q v H' hv P1 B1⟩
end
/-! ### some things in a drawn order -/
/-- a server, or a tuple of servers -/
def TI (K : PySem.W.Frag) (H : Hp) (v : V) (d : PyData) : Prop := (∃ m : Nat, m < 60 ∧ v = .int (m : Int) ∧ d = .int (m : Int)) ∨ ∃ (t : Addr) (ms : List Nat), v = .ref t ∧ SqT K H t (setV ms) ∧ ms.length ≤ 60 ∧ (∀ x ∈ ms, x < 60) ∧ d = .tuple (natD ms)
theorem TI.dp {K : PySem.W.Frag} {H : Hp} {v : V} {d : PyData} (h : TI K H v d) : Dp K H v d := by
  rcases h with ⟨m, _, rfl, rfl⟩ | ⟨t, ms, rfl, hT, _, _, rfl⟩
  · exact .int _
  · exact .tup hT (dp_set ms)
theorem TI.sh {K : PySem.W.Frag} {H : Hp} {v : V} {d : PyData} (h : TI K H v d) : Sh 1 500 d := by
  rcases h with ⟨m, hm, rfl, rfl⟩ | ⟨t, ms, rfl, hT, hl, hx, rfl⟩
  · exact (Sh.int (b := 6) (by decide) (by decide) (i := (m : Int)) (by rw [Int.natAbs_natCast]; omega)).mono (by decide) (by decide)
  · exact sh_list hl hx
theorem SqT_but {K : PySem.W.Frag} {H H' : Hp} {a p : Addr} {xs ys : List V} (h : SqT K H a xs) (hp : H p = some (.lst ys)) (b : But p H H') : SqT K H' a xs := by
  rcases h with (h | ⟨o, h⟩) | h
  · exact .inl (.inl (b _ _ (fun c => by rw [c, hp] at h; cases h) h))
  · exact .inl (.inr ⟨o, b _ _ (fun c => by rw [c, hp] at h; cases h) h⟩)
  · exact .inr h
theorem PotAt.lst {H : Hp} {p : Addr} {m : Nat} (h : PotAt H p m) : ∃ ys, H p = some (.lst ys) := by
  obtain ⟨a, b, c, h1, _⟩ := h
  exact ⟨_, h1⟩
theorem TI.same {K : PySem.W.Frag} {H H' : Hp} {v : V} {d : PyData} (s : Same H H') (h : TI K H v d) : TI K H' v d := by
  rcases h with h | ⟨t, ms, e, hT, r⟩
  · exact .inl h
  · exact .inr ⟨t, ms, e, Same.seqT s hT, r⟩
theorem TI.updL {K : PySem.W.Frag} {H : Hp} {v : V} {d : PyData} {D : Addr} {ys : List V} {o : HO} (h : TI K H v d) (hD : H D = some (.lst ys)) : TI K (upd H D o) v d := by
  rcases h with h | ⟨t, ms, e, hT, r⟩
  · exact .inl h
  · exact .inr ⟨t, ms, e, SqT_updL hT hD, r⟩
theorem TI.but {K : PySem.W.Frag} {H H' : Hp} {v : V} {d : PyData} {p : Addr} {m : Nat} (h : TI K H v d) (hp : PotAt H p m) (b : But p H H') : TI K H' v d := by
  obtain ⟨ys, e⟩ := hp.lst
  rcases h with h | ⟨t, ms, e2, hT, r⟩
  · exact .inl h
  · exact .inr ⟨t, ms, e2, SqT_but hT e b, r⟩
def Els (K : PySem.W.Frag) (H : Hp) (xs : List V) : Prop := ∀ x ∈ xs, ∃ d, TI K H x d
theorem Els.data {K : PySem.W.Frag} {H : Hp} : ∀ {xs : List V}, Els K H xs → ∃ ds, DpAll K H xs ds ∧ ShAll 1 (501 * xs.length) ds ∧ ds.length = xs.length
  | [], _ => ⟨[], .nil, ShAll.nil.mono (by decide) (Nat.zero_le _), rfl⟩
  | x :: r, h => by
    obtain ⟨d, hd⟩ := h x List.mem_cons_self
    obtain ⟨ds, h1, h2, h3⟩ := Els.data fun y hy => h y (List.mem_cons_of_mem _ hy)
    exact ⟨d :: ds, .cons hd.dp h1, (ShAll.cons hd.sh h2).mono (Nat.le_refl _) (by rw [List.length_cons, Nat.mul_succ]; omega), congrArg (· + 1) h3⟩
theorem Els.set {K : PySem.W.Frag} {H : Hp} {ms : List Nat} (h : ∀ x ∈ ms, x < 60) : Els K H (setV ms) := fun v hv => by
  obtain ⟨m, hm, rfl⟩ := setV_mem hv
  exact ⟨_, .inl ⟨m, h m hm, rfl, rfl⟩⟩
theorem PotAt.upd {H : Hp} {p q : Addr} {m : Nat} {o : HO} (h : PotAt H p m) (n : p ≠ q) : PotAt (L2.upd H q o) p m := by
  obtain ⟨a, b, c, h1, h2⟩ := h
  exact ⟨a, b, c, by rw [upd_ne n]; exact h1, h2⟩
def spMixed (K : PySem.W.Frag) : Sp := fun vs H Q _ => ∃ (p : Addr) (m : Nat) (a : Addr) (xs : List V), vs = [.ref p, .ref a] ∧ PotAt H p m ∧ m ≤ 100000 ∧ (SqL K H a xs ∨ SqT K H a xs) ∧ xs.length ≤ 1000 ∧ Els K H xs ∧
  ∀ H' q ys, But p H H' → H q = none → H' q = some (.lst ys) → ys.Perm xs → PotAt H' p (m + xs.length) → Q (.ref q) H'
def WMixed (K : PySem.W.Frag) (p a pl pf : Addr) (m : Nat) (xs : List V) (H : Hp) (k : Nat) (σ : L2.St) (H' : Hp) : Prop := ∃ L F : List V, σ = [some (.ref p), some (.ref a), some (.ref pl), some (.ref pf)] ∧ H' pl = some (.lst L) ∧ H' pf = some (.lst F) ∧ (F ++ L).Perm xs ∧ PotAt H' p (m + F.length) ∧ But p H H' ∧ Els K H' xs ∧ k = L.length
section
variable {P : Program} {w : World} {K : PySem.W.Frag} {mg : Str → Option Value} {base : Heap}
theorem ok_mixed (T : Txt K mg) {j : Nat} : FnOk P w K mg base CX0 (j + 2) T.fMixed T.fdMixed ["_law_pot_here", "_law_some"] (spMixed K) := by
  refine T.FMixed.ok scMixed (fun vs H Q E h => ?_) (fun cdv A outer s H vs Q E hr h => ?_)
  · obtain ⟨p, m, a, xs, rfl, _⟩ := h
    rfl
  · obtain ⟨p, m, a, xs, rfl, P0, hm, hA, hl, els, q⟩ := h
    have hu64 : (A.deeper (envOfC "_law_mixed" (defScope sMixed) s.heap.objs.size T.fMixed cdv)).units + 64 < cLine := by
      have := hr.un
      omega
    refine ⟨_, pss_cons (ps_par (i := 2) (j := 3) rfl scMixed.nd rfl rfl (by decide) rfl rfl (pa_cons (pe_callTy (call_listK K) (by rfl) T.n_list (by decide +kernel) (pa_cons (pv 1) pa_nil)) (pa_cons (pe_lst pa_nil) pa_nil)) (by rfl)) (pss_cons (ps_while PassesOwn.never (pt_cmpR (op_neDK K hu64) (pv 2) (pe_lst pa_nil) (nomark _)) (pss_one (ps_expr (pe_bm PySem.F.plainAttrs_list PySem.F.slot_list_append PySem.F.type_list_append mt_append (pv 3) (pa_cons (pe_bm PySem.F.plainAttrs_list PySem.F.slot_list_pop PySem.F.type_list_pop mt_popAt (pv 2) (pa_cons (pe_call (ok_take T) hr (by rfl) T.gTake T.FTake.kp T.bTake .nil pass0 (pa_cons (pv 0) (pa_cons (pe_callB (call_lenK K) (by rfl) T.n_len PySem.boot_len (pa_cons (pv 2) pa_nil)) pa_nil))) pa_nil)) pa_nil))))) (pss_one (ps_ret (pv 3)))), ?_⟩
    refine ⟨.ref a, rfl, a, _, rfl, hA, fun pl nl => ⟨Nat.zero_le _, fun pf nf => ⟨_, _, rfl, ?_⟩⟩⟩
    have hpl : pl ≠ p := (P0.ne nl).symm
    have P1 := P0.same (same_new (o := .lst xs) nl)
    have hpf : pf ≠ p := (P1.ne nf).symm
    have npf : pf ≠ pl := fun z => by
      rw [z, upd_same] at nf
      cases nf
    have ff : H pf = none := (same_new nl).free nf
    have s0 := (same_new (o := .lst xs) nl).trans (same_new (o := .lst []) nf)
    refine ⟨WMixed K p a pl pf m xs H, ⟨xs.length, xs, [], rfl, ?_, upd_same, List.Perm.refl _, P0.same s0, But.of s0, fun x hx => ?_, rfl⟩, ?_⟩
    · rw [upd_ne npf.symm]
      exact upd_same
    · obtain ⟨d, hd⟩ := els x hx
      exact ⟨d, hd.same s0⟩
    rintro k σ H2 ⟨L, F, rfl, hL, hF, pm, P2, B2, els2, rfl⟩
    have elsL : Els K H2 L := fun x hx => els2 x (pm.mem_iff.mp (List.mem_append_right _ hx))
    have hlen := pm.length_eq
    rw [List.length_append] at hlen
    refine ⟨.ref pl, rfl, Nat.zero_le _, fun e ne => ?_⟩
    have se := same_new (o := .lst []) ne
    obtain ⟨ds, d1, d2, d3⟩ := Els.data elsL
    have sL := (Sh.lst d2).shaped (by decide)
    refine ⟨.list ds, .list [], .lst (SqL.of (se _ _ hL)) (DpAll.mono se d1), .lst (SqL.of upd_same) .nil, sL, (Sh.lst ShAll.nil).shaped (by decide), _, rfl, ?_⟩
    have P3 := P2.same se
    have B3 := B2.same se
    have hL3 := se _ _ hL
    have hF3 := se _ _ hF
    have els3 : Els K (upd H2 e (.lst [])) xs := fun x hx => by
      obtain ⟨d, hd⟩ := els2 x hx
      exact ⟨d, hd.same se⟩
    generalize upd H2 e (.lst []) = H3 at P3 B3 hL3 hF3 els3
    cases L with
    | nil =>
      cases ds with
      | cons _ _ => cases d3
      | nil =>
        refine iteF ⟨_, rfl, ?_⟩
        rw [List.append_nil] at pm
        rw [List.length_nil, Nat.add_zero] at hlen
        rw [hlen] at P3
        exact q H3 pf F B3 ff hF3 pm P3
    | cons y r =>
      cases ds with
      | nil => cases d3
      | cons d ds =>
        refine iteT ?_
        refine ⟨WMixed K p a pl pf m xs H r.length, fun σ' H'' hw => ⟨r.length, Nat.lt_succ_self _, hw⟩, ?_⟩
        have hlr : (y :: r).length = r.length + 1 := rfl
        refine ⟨.ref pf, rfl, .inl ⟨rfl, _, SqL.of hF3⟩, .ref pl, rfl, .inl ⟨rfl, _, SqL.of hL3⟩, .ref p, rfl, .ref pl, rfl, pl, _, rfl, .inl (SqL.of hL3), p, _, _, rfl, P3, by omega, by omega, ?_, fun x H7 x0 xl P7 B7 => ?_⟩
        · exact Int.lt_trans (show ((y :: r).length : Int) < 2000 by omega) (by decide +kernel)
        obtain ⟨k, rfl⟩ := Int.eq_ofNat_of_zero_le x0
        have hk : k < (y :: r).length := by omega
        have hL7 := B7 _ _ hpl hL3
        have hF7 := B7 _ _ hpf hF3
        refine ⟨pl, _, (k : Int), k, _, rfl, rfl, hL7, by omega, by omega, seq_at hk, List.getElem?_eq_getElem hk, pf, _, _, rfl, rfl, (by rw [upd_ne npf]; exact hF7), small1000 (by omega), ?_⟩
        refine ⟨(y :: r).eraseIdx k, F ++ [(y :: r)[k]], rfl, ?_, upd_same, ?_, ?_, ?_, ?_, ?_⟩
        · rw [upd_ne npf.symm, upd_same]
        · rw [List.append_assoc]
          exact ((erase_perm (y :: r) k _ (List.getElem?_eq_getElem hk)).append_left F).trans pm
        · rw [List.length_append, show m + (F.length + [(y :: r)[k]].length) = m + F.length + 1 from rfl]
          exact (P7.upd hpl.symm).upd hpf.symm
        · exact but_new (but_new (B3.trans B7) nl) ff
        · intro x hx
          obtain ⟨d, hd⟩ := els3 x hx
          have h7 := hd.but P3 B7
          exact ⟨d, (h7.updL hL7).updL (ys := F) (by rw [upd_ne npf]; exact hF7)⟩
        · rw [List.length_eraseIdx, if_pos hk]
          omega
end
/-! ### what was raised, told -/
theorem len3 {σ : L2.St} (h : σ.length = 3) : ∃ a b c, σ = [a, b, c] := by
  match σ, h with
  | [a, b, c], _ => exact ⟨a, b, c, rfl⟩
def EC20 {K : PySem.W.Frag} {mg : Str → Option Value} (T : Txt K mg) (Q : VK) : XK := fun cls d H' => ∃ (d' : Addr) (v : V), d = some d' ∧ cls = .ref T.cTooS ∧ H' d' = some (.xd [("order", v)]) ∧ ∀ H2 x, Same H' H2 → H' x = none → H2 x = some (.lst [.str "too short", v]) → Q (.ref x) H2
def TT20 {K : PySem.W.Frag} {mg : Str → Option Value} (T : Txt K mg) : (XK → Hp → VK → Prop) → Hp → VK → Prop := fun tl H Q => ∀ H0 Q', Same H H0 → tl (EC20 T Q) H0 Q'
theorem gives_called20 {X : Cx} {K : PySem.W.Frag} {mg : Str → Option Value} (T : Txt K mg) (hK : X.K = K) (hmg : X.mg = mg) {cdg : Value} {q : Str} : LamX.GivesTo X NCalled20 "_law_called" (defScope sCalled20) T.fCalled20 cdg (defBody sCalled20) "_law_call" q (TT20 T) := by
  subst hK hmg
  intro f c' s H Q tl act hc h
  refine ⟨_, pss_cons (ps_set (i := 1) scCalled20.nd rfl (.inl rfl) pe_non) (pss_cons (ps_try_keep (i := 2) (Wout := fun _ _ _ _ => False) rfl rfl rfl scCalled20.nd rfl rfl ⟨rfl, by decide, Or.inl T.gcBase⟩ takesF (fun W pn xe tk _ => (pss_one (ps_ret (pe_actE 3 tk (fun E W' tk' hE => act W' pn xe E _ _ tk' hE))))) (fun xa xoe xcls xd xpn xz xf => (pss_one (ps_set (i := 1) scCalled20.nd rfl (.inl rfl) (pv 2))))) (pss_cons (ps_if (PW.pt (pw_or (pt_not (pt_val (pe_callB call_isX (by rfl) T.n_isinstance (by decide +kernel) (pa_cons (pv 1) (pa_cons (pe_glob (v := .ref T.cTooS) (by rfl) T.gcTooS rfl) pa_nil))))) (pw_or1 (pt_val (pe_callB call_isXT (by rfl) T.n_isinstance (by decide +kernel) (pa_cons (pv 1) (pa_cons (pe_tup (pa_cons (pe_glob (v := .ref T.cNotP) (by rfl) T.gcNotP rfl) (pa_cons (pe_glob (v := .ref T.cTooM) (by rfl) T.gcTooM rfl) pa_nil))) pa_nil))))))) (pss_one (ps_ret pe_str)) pss_nil) (pss_one (ps_ret (pe_ifExp (pt_val (pe_callB call_isX (by rfl) T.n_isinstance (by decide +kernel) (pa_cons (pv 1) (pa_cons (pe_bltn (v := .ty "ValueError") (by rfl) T.n_ValueError (by decide +kernel) rfl) pa_nil)))) (pe_lst (pa_cons pe_str (pa_cons (pe_fldX (pv 1)) pa_nil))) pe_str))))), ?_⟩
  refine ⟨EC20 T Q, fun cls d σ' H' he hlen => ?_, rfl, hc, h H _ (Same.refl _)⟩
  obtain ⟨d', v, rfl, rfl, hd, hq⟩ := he
  obtain ⟨a1, a2, a3, rfl⟩ := len3 hlen
  refine ⟨true, T.eTooS.ex, fun _ e ne => ?_, fun z => nomatch z⟩
  have s2 := same_new (o := exk e (.ref T.cTooS) (some d')) ne
  have ea : (upd H' e (exk e (.ref T.cTooS) (some d'))) e = some (exk e (.ref T.cTooS) (some d')) := upd_same
  have ed : (upd H' e (exk e (.ref T.cTooS) (some d'))) d' = some (.xd [("order", v)]) := s2 _ _ hd
  refine ⟨.ref e, rfl, ?_⟩
  refine ⟨.ref e, rfl, e, T.cTooS, d', _, _, _, _, rfl, ea, ed, T.eTooS.ec, .own _, T.kitMe, _, rfl, iteF ?_⟩
  refine ⟨.ref e, rfl, (by show 2 ≤ sizeLine; decide), fun t1 n1 => ?_⟩
  have s3 := same_new (o := .tup [V.ref T.cNotP, V.ref T.cTooM]) n1
  refine ⟨e, T.cTooS, d', _, t1, _, _, _, rfl, s3 _ _ ea, s3 _ _ ed, T.eTooS.ec, upd_same, .cons (.own _) (.cons (.own _) .nil), T.kitNot, _, rfl, iteF ?_⟩
  refine ⟨.ref e, rfl, e, T.cTooS, d', _, _, _, _, rfl, s3 _ _ ea, s3 _ _ ed, T.eTooS.ec, .ty _, T.kitVal, _, rfl, iteT ?_⟩
  refine ⟨.ref e, rfl, e, T.cTooS, d', _, v, rfl, s3 _ _ ea, s3 _ _ ed, T.eTooS.xf, T.eTooS.no, rfl, (by show 2 ≤ sizeLine; decide), fun p np => ?_⟩
  exact hq _ p ((s2.trans s3).trans (same_new np)) ((s2.trans s3).free np) upd_same
/-! ### the law -/
theorem PotAt.ext20 {H H' : Hp} {p : Addr} {m : Nat} (h : PotAt H p m) (e : LamX.ExtN H H') : PotAt H' p m := by
  obtain ⟨a, b, c, h1, h2⟩ := h
  exact ⟨a, b, c, extN_lst e h1, h2⟩
theorem RowsL.gen20 {K : PySem.W.Frag} {H H' : Hp} {ts : List V} {rows : List (List Nat)} (h : RowsL K H ts rows) (k : ∀ {t : Addr} {xs : List V}, SqT K H t xs → SqT K H' t xs) : RowsL K H' ts rows := PySem.Paired.mono (fun v ms ⟨t, e, z⟩ => ⟨t, e, k z⟩) h
/-- numbers and a table beside code objects that grow -/
structure S20 (tabs : List (Addr × Str)) (K : PySem.W.Frag) (H0 H : Hp) (p a : Addr) (m : Nat) (ts : List V) (rows : List (List Nat)) : Prop where
  pot : PotAt H p m
  tab : LamX.Tabs tabs H
  keep : LamX.ExtN H0 H
  no : H0 p = none
  sq : SqT K H a ts
  row : RowsL K H ts rows
section
variable {tabs : List (Addr × Str)} {K : PySem.W.Frag} {H0 H H' : Hp} {p a : Addr} {m m' : Nat} {ts : List V} {rows : List (List Nat)}
theorem S20.ext (S : S20 tabs K H0 H p a m ts rows) (e : LamX.ExtN H H') (t : LamX.Tabs tabs H') : S20 tabs K H0 H' p a m ts rows := ⟨S.pot.ext20 e, t, LamX.ExtN.trans S.keep e, S.no, SqT_extN S.sq e, S.row.gen20 fun z => SqT_extN z e⟩
theorem S20.same (S : S20 tabs K H0 H p a m ts rows) (s : Same H H') : S20 tabs K H0 H' p a m ts rows := S.ext (extN_same s) (tabs_same S.tab s)
theorem S20.to (S : S20 tabs K H0 H p a m ts rows) (b : But p H H') (P : PotAt H' p m') : S20 tabs K H0 H' p a m' ts rows := by
  obtain ⟨x, y, z, e, _⟩ := S.pot
  exact ⟨P, tabs_but S.tab e b, fun q o h n => b q o (ne_of_none h S.no) (S.keep q o h n), S.no, SqT_but S.sq e b, S.row.gen20 fun z => SqT_but z e b⟩
theorem S20.lay {l : Addr} {xs : List V} {o : HO} (S : S20 tabs K H0 H p a m ts rows) (hl : H l = some (.lst xs)) (n0 : ∀ u, H0 l = some u → (∀ ps, u ≠ .tbl ps) → False) (np : l ≠ p) : S20 tabs K H0 (upd H l o) p a m ts rows := by
  have k : But l H (upd H l o) := fun b o ne e => by rw [upd_ne ne]; exact e
  exact ⟨S.pot.upd np.symm, tabs_but S.tab hl k, fun q u h n => k q u (fun z => n0 u (by rw [← z]; exact h) n) (S.keep q u h n), S.no, SqT_updL S.sq hl, S.row.gen20 fun z => SqT_updL z hl⟩
theorem S20.mono (S : S20 tabs K H0 H p a m ts rows) (h : m ≤ m') : S20 tabs K H0 H p a m' ts rows := ⟨S.pot.mono h, S.tab, S.keep, S.no, S.sq, S.row⟩
end
/-- a lambda that is kept: what W says is enough for its call -/
def GoodL (X : Cx) (k : Nat) (W : XK → Hp → Prop) (σ0 : L2.St) (v : V) (H : Hp) : Prop := ∃ (f c' : Addr) (params : Arguments) (body : Expr) (scope : Scope) (t : XK → TE), v = .ref f ∧ LamOk X k params body scope t ∧ H f = some (LmO f (lamN X params scope c') body) ∧ H c' = some (LamX.CodeO c' (X.env.qual ++ "<lambda>")) ∧ ∀ E H' Q', W E H' → t E σ0 H' Q'
theorem good_mk {X : Cx} {k : Nat} {W : XK → Hp → Prop} {σ0 : L2.St} {H : Hp} {f c' : Addr} {params : Arguments} {body : Expr} {scope : Scope} {t : XK → TE} (hf : H f = some (LmO f (lamN X params scope c') body)) (hc : H c' = some (LamX.CodeO c' (lamN X params scope c').qual)) (lk : LamOk X k params body scope t) (w : ∀ E H' Q', W E H' → t E σ0 H' Q') : GoodL X k W σ0 (.ref f) H := ⟨f, c', params, body, scope, t, rfl, lk, hf, hc, w⟩
theorem lmO_ne {f : Addr} {F : NdefX.NF} {body : Expr} : ∀ ps, LmO f F body ≠ .tbl ps := fun ps z => by
  unfold LmO at z
  cases z
theorem GoodL.ext {X : Cx} {k : Nat} {W : XK → Hp → Prop} {σ0 : L2.St} {v : V} {H H' : Hp} (g : GoodL X k W σ0 v H) (e : LamX.ExtN H H') : GoodL X k W σ0 v H' := by
  obtain ⟨f, c', params, body, scope, t, h1, h2, h3, h4, h5⟩ := g
  exact ⟨f, c', params, body, scope, t, h1, h2, e _ _ h3 lmO_ne, e _ _ h4 LamX.codeO_ne, h5⟩
theorem GoodL.lay {X : Cx} {k : Nat} {W : XK → Hp → Prop} {σ0 : L2.St} {v : V} {H : Hp} {l : Addr} {xs : List V} {o : HO} (g : GoodL X k W σ0 v H) (hl : H l = some (.lst xs)) : GoodL X k W σ0 v (upd H l o) := by
  obtain ⟨f, c', params, body, scope, t, h1, h2, h3, h4, h5⟩ := g
  refine ⟨f, c', params, body, scope, t, h1, h2, ?_, ?_, h5⟩
  · rw [upd_ne (fun z => by rw [z, hl] at h3; unfold LmO at h3; cases h3)]
    exact h3
  · rw [upd_ne (fun z => by rw [z, hl] at h4; unfold LamX.CodeO at h4; cases h4)]
    exact h4
def W20 (K : PySem.W.Frag) (CS a1 u0 : Addr) (vs : List V) (rows : List (List Nat)) : XK → Hp → Prop := fun E H => SqT K H a1 vs ∧ RowsL K H vs rows ∧ Raised "order" CS (.ref u0) H E
theorem head20 {K : PySem.W.Frag} {H : Hp} {ts : List V} {rows : List (List Nat)} {r0 : List Nat} {u0 : Addr} (R : RowsL K H ts rows) (h1 : rows.head? = some r0) (h2 : ts.head? = some (.ref u0)) : SqT K H u0 (setV r0) := by
  cases R with
  | nil => cases h1
  | cons a b =>
    obtain ⟨t, rfl, ht⟩ := a
    injection h2 with h2
    injection h2 with h2
    injection h1 with h1
    subst h1 h2
    exact ht
theorem sh_short20 : Sh 0 100 (.str "too short") := ⟨by decide +kernel, by decide +kernel, by decide +kernel, by decide +kernel, by decide +kernel⟩
theorem sh_pair20 {r0 : List Nat} (h1 : r0.length ≤ 60) (h2 : ∀ x ∈ r0, x < 60) : Sh 60 80000 (.list [.str "too short", .tuple (natD r0)]) :=
  (Sh.lst (ShAll.cons (sh_short20.mono (dp' := 2) (wt' := 1000) (by decide) (by decide)) (ShAll.cons ((sh_list h1 h2).mono (dp' := 2) (wt' := 1000) (by decide) (by decide)) (ShAll.nil.mono (Nat.zero_le _) (Nat.le_refl _))))).mono (by decide) (by decide)
theorem rep_snoc20 (j : Nat) : (List.replicate (j + 1) true).map V.bl = (List.replicate j true).map V.bl ++ [V.bl true] := by
  rw [List.replicate_succ', List.map_append]
  rfl
theorem rep_all20 (j : Nat) : (List.replicate j true).all id = true := List.all_eq_true.mpr fun b hb => by rw [(List.mem_replicate.mp hb).2]; rfl
def spLaw (K : PySem.W.Frag) (tabs : List (Addr × Str)) : Sp := fun vs H Q _ => ∃ (a : Addr) (ns : List Int), vs = [.ref a] ∧ SqL K H a (ns.map V.int) ∧ ns.length ≤ 63 ∧ LamX.Tabs tabs H ∧ ∀ H', Q (.bl true) H'
section
variable {P : Program} {w : World} {K : PySem.W.Frag} {mg : Str → Option Value} {base : Heap}
theorem ok_law {f : Addr} {fd : FuncData} (F : Fun K "law" "law" sLaw f fd) (T : Txt K mg) (co : CodeOf K f T.ccLaw) (B : TBs T base) : FnG P w K mg base CX0 11 f fd ["_law_script"] (spLaw K (tabsOf T)) := by
  refine Fun_ok0C F co scLaw (fun vs H Q E h => ?_) (fun A outer s H vs Q E gd hr h => ?_)
  · obtain ⟨a, ns, rfl, _⟩ := h
    rfl
  · obtain ⟨a, ns, rfl, hS, hlen, hT0, q⟩ := h
    have hu66 : (A.deeper (envOfC "law" (defScope sLaw) s.heap.objs.size f (.ref T.ccLaw))).units + 66 < cLine := by
      have := hr.un
      omega
    refine ⟨_, pss_cons (ps_for PassesOwn.never rfl (pi_range1 (by rfl) T.n_range (pa_cons (pe_callB (call_max2 rfl) (by rfl) T.n_max (by decide +kernel) (pa_cons pe_int (pa_cons (pe_callB (call_min2 rfl) (by rfl) T.n_min (by decide +kernel) (pa_cons pe_int (pa_cons (pe_callB (call_lenK K) (by rfl) T.n_len PySem.boot_len (pa_cons (pv 0) pa_nil)) pa_nil))) pa_nil))) pa_nil)) (pg_name (i := 1) scLaw.nd rfl (.inl rfl)) (pss_cons (ps_set (i := 2) scLaw.nd rfl (.inr rfl) (pe_call (ok_pot T) hr (by rfl) T.gPot T.FPot.kp T.bPot .nil pass0 (pa_cons (pv 0) (pa_cons (pv 1) pa_nil)))) (pss_cons (ps_set (i := 3) scLaw.nd rfl (.inr rfl) (pe_call (ok_of T) hr (by rfl) T.gOf T.FOf.kp T.bOf .nil pass0 (pa_cons (pv 2) (pa_cons (pe_lst (pa_cons (pe_op op_add pe_int (pe_call (ok_take T) hr (by rfl) T.gTake T.FTake.kp T.bTake .nil pass0 (pa_cons (pv 2) (pa_cons pe_int pa_nil)))) (pa_cons pe_int pa_nil))) pa_nil)))) (pss_cons (ps_set (i := 4) scLaw.nd rfl (.inr rfl) (pe_op op_add pe_int (pe_call (ok_take T) hr (by rfl) T.gTake T.FTake.kp T.bTake .nil pass0 (pa_cons (pv 2) (pa_cons (pe_op op_sub (pv 3) pe_int) pa_nil))))) (pss_cons (ps_set (i := 5) scLaw.nd rfl (.inr rfl) (pe_callTy (call_tupleK K) (by rfl) T.n_tuple (by decide +kernel) (pa_cons (pe_lc (own := [("_law_turn", 6)]) (g := (gName 6)) (tt := tYes) rfl scLaw.nd (pi_range1 (by rfl) T.n_range (pa_cons (pe_op op_add pe_int (pe_call (ok_take T) hr (by rfl) T.gTake T.FTake.kp T.bTake .nil pass0 (pa_cons (pv 2) (pa_cons pe_int pa_nil)))) pa_nil)) (blkOk_by (own := [("_law_turn", 6)]) (N := NLaw) (sc := defScope sLaw) (by decide +kernel)) (fun _ _ _ _ _ => (pg_name (i := 6) scLaw.nd rfl (.inl rfl))) (fun _ _ _ _ _ => pts_nil) (fun _ _ _ _ _ => (pe_callTy (call_tupleK K) (by rfl) T.n_tuple (by decide +kernel) (pa_cons (pe_slice (sl_listK (K := K)) (pe_call (ok_mixed T) hr (by rfl) T.gMixed T.FMixed.kp T.bMixed .nil pass0 (pa_cons (pv 2) (pa_cons (pe_listRg rfl (by rfl) T.n_list (prg_1 (by rfl) T.n_range (pv 3))) pa_nil))) po_none (po_some (pv 4))) pa_nil)))) pa_nil))) (pss_cons (ps_for PassesOwn.never rfl (pi_range1 (by rfl) T.n_range (pa_cons pe_int pa_nil)) (pg_name (i := 6) scLaw.nd rfl (.inl rfl)) (pss_cons (ps_set (i := 7) scLaw.nd rfl (.inr rfl) (pe_op op_add pe_int (pe_call (ok_take T) hr (by rfl) T.gTake T.FTake.kp T.bTake .nil pass0 (pa_cons (pv 2) (pa_cons (pe_op op_sub (pv 3) pe_int) pa_nil))))) (pss_cons (ps_set (i := 8) scLaw.nd rfl (.inr rfl) (pe_callB (call_min2 rfl) (by rfl) T.n_min (by decide +kernel) (pa_cons (pv 3) (pa_cons (pe_op op_add (pe_callB (call_max2 rfl) (by rfl) T.n_max (by decide +kernel) (pa_cons pe_int (pa_cons (pe_op op_sub (pe_op op_add (pv 4) pe_int) (pv 7)) pa_nil))) (pe_call (ok_of T) hr (by rfl) T.gOf T.FOf.kp T.bOf .nil pass0 (pa_cons (pv 2) (pa_cons (pe_lst (pa_cons pe_int (pa_cons pe_int (pa_cons (pe_call (ok_take T) hr (by rfl) T.gTake T.FTake.kp T.bTake .nil pass0 (pa_cons (pv 2) (pa_cons (pv 3) pa_nil))) pa_nil)))) pa_nil)))) pa_nil)))) (pss_cons (ps_set (i := 9) scLaw.nd rfl (.inr rfl) (pe_call (ok_of T) hr (by rfl) T.gOf T.FOf.kp T.bOf .nil pass0 (pa_cons (pv 2) (pa_cons (pe_lst (pa_cons pe_non (pa_cons (pe_tup pa_nil) (pa_cons (pe_tup (pa_cons (pe_tup (pa_cons pe_int pa_nil)) (pa_cons (pe_tup (pa_cons pe_int pa_nil)) (pa_cons (pe_tup (pa_cons pe_int pa_nil)) pa_nil)))) (pa_cons (pe_lst pa_nil) (pa_cons pe_int (pa_cons pe_str (pa_cons (pe_tup (pa_cons (pe_tup (pa_cons pe_int (pa_cons pe_int pa_nil))) (pa_cons (pe_tup (pa_cons pe_int pa_nil)) (pa_cons (pe_tup (pa_cons pe_int pa_nil)) pa_nil)))) pa_nil)))))))) pa_nil)))) (pss_cons (ps_set (i := 10) scLaw.nd rfl (.inl rfl) (pe_lst (pa_cons (pe_lamT (T := tabsOf T) B.tbLaw rfl (.head _) hu1 (LamX.lamS_by (sc := defScope sLaw) (by decide +kernel))) pa_nil))) (pss_cons (ps_expr (pe_bm PySem.F.plainAttrs_list PySem.F.slot_list_append PySem.F.type_list_append mt_append (pv 10) (pa_cons (pe_lamT (T := tabsOf T) B.tbLaw rfl (.head _) hu1 (LamX.lamS_by (sc := defScope sLaw) (by decide +kernel))) pa_nil))) (C8.pss_cut (ps_if (pt_cmpR op_lt (pv 3) pe_int (nomark _)) (pss_one (ps_expr (pe_bm PySem.F.plainAttrs_list PySem.F.slot_list_append PySem.F.type_list_append mt_append (pv 10) (pa_cons (pe_lamT (T := tabsOf T) B.tbLaw rfl (.head _) hu1 (LamX.lamS_by (sc := defScope sLaw) (by decide +kernel))) pa_nil)))) pss_nil) (pss_one (ps_if (pt_not (pt_val (pe_callB (cr_allK K) (by rfl) T.n_all (by decide +kernel) (pa_cons (pe_lcI (own := [("_law_call", 11)]) (g := (gName 11)) (tt := tYes) rfl scLaw.nd (pi_list (pv 10)) (blkOk_by (own := [("_law_call", 11)]) (N := NLaw) (sc := defScope sLaw) (by decide +kernel)) (fun _ _ _ _ _ => (pg_name (i := 11) scLaw.nd rfl (.inl rfl))) (fun _ _ _ _ _ => pts_nil) (fun _ _ _ _ _ _ hI => (pe_cmpR op_eq (pe_callB (call_reprD2 K gd hu66) (by rfl) T.n_repr (by decide +kernel) (pa_cons (pe_lamC (i := 11) hI T.FCalled20 (by rfl) T.gCalled20 T.bCalled20 scCalled20 rfl (Or.inl rfl) (fun cdg => gives_called20 T rfl rfl) hr rfl (Or.inl rfl)) pa_nil)) (pe_callB (call_reprD2 K gd hu66) (by rfl) T.n_repr (by decide +kernel) (pa_cons (pe_lst (pa_cons pe_str (pa_cons (pe_ix (ix_tupK K) (pv 5) pe_int (fun _ _ => rfl)) pa_nil))) pa_nil)) (nomark _)))) pa_nil)))) (pss_one (ps_ret pe_bl)) pss_nil))))))))) (pss_one (ps_if (pt_cmpR op_gt (pv 4) pe_int (nomark _)) (pss_cons (ps_set (i := 12) scLaw.nd rfl (.inl rfl) (pe_call (ok_showsu T) hr (by rfl) T.gShowsU T.FShowsU.kp T.bShowsU .nil passF (pa_cons (pv 3) (pa_cons (pv 5) (pa_cons (pe_op op_sub (pv 4) pe_int) (pa_cons pe_int (pa_cons (pe_tup (pa_cons (pe_tup (pa_cons pe_int pa_nil)) (pa_cons (pe_tup (pa_cons pe_int pa_nil)) (pa_cons (pe_tup (pa_cons pe_int pa_nil)) pa_nil)))) pa_nil))))))) (pss_one (ps_if (pt_cmpR op_isnot_bl (pv 12) pe_bl (nomark _)) (pss_one (ps_ret pe_bl)) pss_nil))) pss_nil)))))))) (pss_one (ps_ret pe_bl)), ?_⟩
    refine ⟨.ref a, rfl, a, _, rfl, .inl hS, _, _, rfl, _, _, rfl, _, rfl, ?_, ?_, ?_⟩
    · split <;> split <;> omega
    · split <;> split <;> omega
    refine for_range (lo := 0) (fun i σ H2 => ∃ v1 v2 v3 v4 v5 v6 v7 v8 v9 v10 v12, σ = [some (.ref a), v1, v2, v3, v4, v5, v6, v7, v8, v9, v10, none, v12] ∧ LamX.ExtN H H2 ∧ LamX.Tabs (tabsOf T) H2) ⟨none, none, none, none, none, none, none, none, none, none, none, rfl, LamX.ExtN.refl H, hT0⟩ ?_ ?_
    rotate_left
    · rintro σ H2 ⟨v1, v2, v3, v4, v5, v6, v7, v8, v9, v10, v12, rfl, s2, T2⟩
      exact q _
    rintro i σ H2 hi ⟨v1, v2, v3, v4, v5, v6, v7, v8, v9, v10, v12, rfl, s2, T2⟩
    have hi3 : i < 4 := by
      refine Nat.lt_of_lt_of_le hi ?_
      split <;> split <;> omega
    rw [Int.zero_add]
    refine ⟨.ref a, rfl, _, rfl, a, ns, i, rfl, SqL_extN hS s2, by omega, fun H3 p s3 np P3 => ?_⟩
    dsimp only [gName]
    refine ⟨.ref p, rfl, .ref p, rfl, p, _, 7, rfl, P3, by omega, by decide, by decide +kernel, fun r1 H4 r10 r1l P4 B4 => ⟨_, _, rfl, rfl, ?_⟩⟩
    refine ⟨by show 2 ≤ sizeLine; decide, fun l nl => ?_⟩
    refine ⟨p, _, l, _, rfl, P4.same (same_new nl), by omega, upd_same, (P4.ne nl).symm, (by show 1 ≤ 2; decide), (by show 2 ≤ 1000; decide), fun v H6 hv P6 B6 => ?_⟩
    have C6 : But p H3 H6 := (B4.same (same_new nl)).trans B6
    obtain ⟨n, rfl, hn1, hn2⟩ : ∃ n : Nat, v = .int (n : Int) ∧ 2 ≤ n ∧ n ≤ 60 := by
      rcases List.mem_cons.mp hv with rfl | hv
      · exact ⟨(2 + r1).toNat, by rw [Int.toNat_of_nonneg (by omega)], by omega, by omega⟩
      rcases List.mem_cons.mp hv with rfl | hv
      · exact ⟨60, rfl, by omega, by omega⟩
      cases hv
    clear hv B4 B6 P4 r10 r1l nl
    dsimp only [gName]
    refine ⟨.ref p, rfl, _, rfl, _, _, rfl, rfl, p, _, (n : Int) - 1, rfl, P6, by omega, by omega, Int.lt_trans (show (n : Int) - 1 < 100 by omega) (by decide +kernel), fun r3 H7 r30 r3l P7 B7 => ⟨_, _, rfl, rfl, ?_⟩⟩
    obtain ⟨r3, rfl⟩ := Int.eq_ofNat_of_zero_le r30
    dsimp only [gName]
    rw [show (1 : Int) + (r3 : Int) = ((1 + r3 : Nat) : Int) by omega]
    have hd1 : 1 ≤ 1 + r3 := by omega
    have hdn : 1 + r3 < n := by omega
    generalize 1 + r3 = d at hd1 hdn ⊢
    have C7 := C6.trans B7
    clear C6 B7 P6
    refine ⟨.ref p, rfl, p, _, 4, rfl, P7, by omega, by decide, by decide +kernel, fun r4 H8 r40 r4l P8 B8 => ⟨_, _, rfl, rfl, ?_⟩⟩
    obtain ⟨r4, rfl⟩ := Int.eq_ofNat_of_zero_le r40
    have C8 := C7.trans B8
    clear C7 B8 P7
    dsimp only [tNil]
    rw [show (1 : Int) + (r4 : Int) = ((1 + r4 : Nat) : Int) by omega]
    have hm1 : 1 ≤ 1 + r4 := by omega
    have hm5 : 1 + r4 ≤ 4 := by omega
    generalize 1 + r4 = m at hm1 hm5 ⊢
    refine ⟨m, rfl, by omega, by omega, fun D nD => ?_⟩
    rw [Int.toNat_natCast]
    have Dp0 : D ≠ p := fun e => by
      obtain ⟨a, b, c, h, _⟩ := P8
      rw [← e, nD] at h
      cases h
    refine lc_range (lo := 0) (n := m) (fun z H9 => ∃ vs rows, But p H8 H9 ∧ H9 D = some (.lst vs) ∧ RowsL K H9 vs rows ∧ rows.length = z ∧ (∀ r ∈ rows, r.length = d ∧ ∀ x ∈ r, x < n) ∧ PotAt H9 p (10 + 61 * z)) ⟨[], [], But.of (same_new nD), upd_same, .nil, rfl, fun r h => absurd h List.not_mem_nil, (P8.mono (by omega)).upd Dp0.symm⟩ ?_ ?_
    · rintro z H9 hz ⟨vs, rows, b9, hD, R9, rl, dr, P9⟩
      refine ⟨rfl, .ref p, rfl, _, rfl, _, rfl, .of_le (by omega) (by omega) (by omega) (by omega), fun pe ne => ?_⟩
      rw [setV_range n]
      have se := same_new (o := .lst (setV (List.range' 0 n))) ne
      refine ⟨p, _, pe, _, rfl, P9.same se, by omega, .inl (SqL.of upd_same), by rw [setV_len, List.length_range']; omega, Els.set (fun x hx => by have := mem_range0.mp hx; omega), fun H10 q7 ys B10 n7 h7 pm P10 => ?_⟩
      obtain ⟨ks, rfl, pk⟩ := perm_setV pm
      rw [setV_len, List.length_range'] at P10
      have kl := pk.length_eq
      rw [List.length_range'] at kl
      refine ⟨_, rfl, _, rfl, q7, _, rfl, SqL.of h7, fun q9 n9 => ?_⟩
      rw [cut_take]
      have s9 := same_new (o := .lst (setV (ks.take d))) n9
      have h9 : (upd H10 q9 (.lst (setV (ks.take d)))) q9 = some (.lst (setV (ks.take d))) := upd_same
      have P11 := P10.same s9
      have C11 : But p H9 (upd H10 q9 (.lst (setV (ks.take d)))) := ((But.of se).trans B10).trans (But.of s9)
      show tNil _ (upd H10 q9 (.lst (setV (ks.take d)))) _
      generalize upd H10 q9 (.lst (setV (ks.take d))) = H11 at s9 h9 P11 C11 ⊢
      refine ⟨q9, _, rfl, .inl ⟨SqL.of h9, fun t nt => ?_⟩⟩
      have st := same_new (o := .tup (setV (ks.take d))) nt
      have C12 := C11.trans (But.of st)
      have P12 := P11.same st
      have hD12 := C12 _ _ Dp0 hD
      have R12 : RowsL K (upd H11 t (.tup (setV (ks.take d)))) vs rows := by
        obtain ⟨x, y, c, e, _⟩ := P9
        exact R9.gen20 fun z => SqT_but z e C12
      have vl := R9.len
      refine ⟨vs, hD12, by rw [vl, rl, sizeLine_eq]; omega, vs ++ [.ref t], rows ++ [ks.take d], fun b o ne2 e => by rw [upd_ne (ne_of_none e nD)]; exact (b9.trans C12) b o ne2 e, upd_same, RowsL.app (R12.gen20 fun z => SqT_updL z hD12) (.cons ⟨t, rfl, SqT_updL (SqT.of upd_same) hD12⟩ .nil), by rw [List.length_append, rl]; rfl, fun r hr => ?_, (P12.mono (by omega)).upd Dp0.symm⟩
      rcases List.mem_append.mp hr with h | h
      · exact dr r h
      · rw [List.mem_singleton.mp h]
        exact ⟨by rw [List.length_take]; omega, fun x hx => mem_range0.mp (pk.mem_iff.mp (List.mem_of_mem_take hx))⟩
    rintro H9 ⟨vs, rows, b9, hD, R9, rl, dr, P9⟩
    refine ⟨D, _, rfl, .inl ⟨SqL.of hD, fun a1 na1 => ?_⟩⟩
    have sa := same_new (o := .tup vs) na1
    have S1 : S20 (tabsOf T) K H2 (upd H9 a1 (.tup vs)) p a1 1000 vs rows := by
      obtain ⟨x, y, c, e3, _⟩ := id P3
      obtain ⟨x8, y8, c8, e8, _⟩ := id P8
      exact ⟨(P9.mono (by omega)).same sa, tabs_same (tabs_but (tabs_but (tabs_same T2 s3) e3 C8) e8 b9) sa, fun b o h _ => sa b o ((C8.trans b9) b o (ne_of_none h np) (s3 b o h)), np, SqT.of upd_same, R9.gen20 fun z => Same.seqT sa z⟩
    generalize upd H9 a1 (.tup vs) = H10 at S1 ⊢
    clear sa na1 P9 hD R9 b9 C8 P8 nD Dp0 P3 s3
    dsimp only [gName]
    obtain ⟨r0, rs0, er⟩ := List.exists_cons_of_ne_nil (show rows ≠ [] from fun e => by rw [e] at rl; simp at rl; omega)
    obtain ⟨u0, hu0⟩ : ∃ u0, vs.head? = some (V.ref u0) := by
      have R := S1.row
      rw [er] at R
      cases R with
      | cons a b =>
        obtain ⟨t, rfl, ht⟩ := a
        exact ⟨t, rfl⟩
    have hr0 : rows.head? = some r0 := by rw [er]; rfl
    obtain ⟨hl0, hx0⟩ := dr r0 (by rw [er]; exact List.mem_cons_self)
    refine ⟨4, rfl, by omega, by decide, ?_⟩
    refine for_range (lo := 0) (fun j σ H => ∃ v6 v7 v8 v9 v10, σ = [some (.ref a), some (.int (i : Int)), some (.ref p), some (.int (n : Int)), some (.int (d : Int)), some (.ref a1), v6, v7, v8, v9, v10, none, v12] ∧ S20 (tabsOf T) K H2 H p a1 (1000 + 10 * j) vs rows) ⟨_, _, _, _, _, rfl, S1⟩ ?_ ?_
    · rintro j σ H11 hj ⟨v6, v7, v8, v9, v10, rfl, S⟩
      have hj4 : j < 4 := hj
      refine ⟨.ref p, rfl, _, rfl, _, _, rfl, rfl, p, _, (n : Int) - 1, rfl, S.pot, by omega, by omega, Int.lt_trans (show (n : Int) - 1 < 100 by omega) (by decide +kernel), fun r5 H12 r50 r5l P12 B12 => ⟨_, _, rfl, rfl, ?_⟩⟩
      obtain ⟨r5, rfl⟩ := Int.eq_ofNat_of_zero_le r50
      have S12 := S.to B12 P12
      dsimp only [gName]
      rw [show (1 : Int) + (r5 : Int) = ((1 + r5 : Nat) : Int) by omega]
      have hf1 : 1 ≤ 1 + r5 := by omega
      have hfn : 1 + r5 < n := by omega
      generalize 1 + r5 = ff at hf1 hfn ⊢
      refine ⟨_, rfl, _, rfl, _, _, rfl, rfl, _, rfl, _, _, rfl, rfl, _, _, rfl, ?_⟩
      refine ⟨.ref p, rfl, .ref p, rfl, _, rfl, p, _, (n : Int), rfl, S12.pot, by omega, by omega, Int.lt_trans (show (n : Int) < 100 by omega) (by decide +kernel), fun r6 H13 r60 r6l P13 B13 => ?_⟩
      obtain ⟨r6, rfl⟩ := Int.eq_ofNat_of_zero_le r60
      have S13 := S12.to B13 P13
      refine ⟨by show 3 ≤ sizeLine; decide, fun l nl => ?_⟩
      have S14 := S13.same (same_new (o := .lst [V.int 0, V.int 0, V.int (r6 : Int)]) nl)
      refine ⟨p, _, l, _, rfl, S14.pot, by omega, upd_same, (S13.pot.ne nl).symm, (by show 1 ≤ 3; decide), (by show 3 ≤ 1000; decide), fun v H15 hv P15 B15 => ?_⟩
      have S15 := S14.to B15 P15
      obtain ⟨r7, rfl, hr7⟩ : ∃ r7 : Nat, v = .int (r7 : Int) ∧ r7 < n := by
        rcases List.mem_cons.mp hv with rfl | hv
        · exact ⟨0, rfl, by omega⟩
        rcases List.mem_cons.mp hv with rfl | hv
        · exact ⟨0, rfl, by omega⟩
        rcases List.mem_cons.mp hv with rfl | hv
        · exact ⟨r6, rfl, by omega⟩
        cases hv
      refine ⟨_, _, rfl, rfl, _, _, rfl, ?_⟩
      dsimp only [gName]
      obtain ⟨k, hk1, hk2⟩ : ∃ k : Nat, (if ((if (d : Int) + 1 - (ff : Int) > 1 then (d : Int) + 1 - (ff : Int) else 1) + (r7 : Int)) < (n : Int) then ((if (d : Int) + 1 - (ff : Int) > 1 then (d : Int) + 1 - (ff : Int) else 1) + (r7 : Int)) else (n : Int)) = (k : Int) ∧ d < min n (ff + k) := by
        refine ⟨min n ((max 1 (d + 1 - ff)) + r7), ?_, ?_⟩
        · split <;> split <;> omega
        · omega
      rw [hk1]
      clear S S12 S13 S14 B12 B13 B15 P12 P13 P15 hv nl hk1
      have S1' := S15
      clear S15
      refine ⟨.ref p, rfl, by show 0 ≤ sizeLine; decide, fun t1 n1 => ?_⟩
      have S2 := S1'.same (same_new (o := .tup []) n1)
      refine ⟨by show 1 ≤ sizeLine; decide, fun t2 n2 => ?_⟩
      have S3 := S2.same (same_new (o := .tup [V.int 0]) n2)
      refine ⟨by show 1 ≤ sizeLine; decide, fun t3 n3 => ?_⟩
      have S4 := S3.same (same_new (o := .tup [V.int 0]) n3)
      refine ⟨by show 1 ≤ sizeLine; decide, fun t4 n4 => ?_⟩
      have S5 := S4.same (same_new (o := .tup [V.int 0]) n4)
      refine ⟨by show 3 ≤ sizeLine; decide, fun t5 n5 => ?_⟩
      have S6 := S5.same (same_new (o := .tup [V.ref t2, V.ref t3, V.ref t4]) n5)
      refine ⟨by show 0 ≤ sizeLine; decide, fun t6 n6 => ?_⟩
      have S7 := S6.same (same_new (o := .lst []) n6)
      refine ⟨by show 2 ≤ sizeLine; decide, fun t7 n7 => ?_⟩
      have S8 := S7.same (same_new (o := .tup [V.int 0, V.int 1]) n7)
      refine ⟨by show 1 ≤ sizeLine; decide, fun t8 n8 => ?_⟩
      have S9 := S8.same (same_new (o := .tup [V.int 0]) n8)
      refine ⟨by show 1 ≤ sizeLine; decide, fun t9 n9 => ?_⟩
      have S10 := S9.same (same_new (o := .tup [V.int 1]) n9)
      refine ⟨by show 3 ≤ sizeLine; decide, fun t10 n10 => ?_⟩
      have S11 := S10.same (same_new (o := .tup [V.ref t7, V.ref t8, V.ref t9]) n10)
      refine ⟨by show 7 ≤ sizeLine; decide, fun l nl => ?_⟩
      have S12 := S11.same (same_new (o := .lst [V.non, V.ref t1, V.ref t5, V.ref t6, V.int 7, V.str "", V.ref t10]) nl)
      refine ⟨p, _, l, _, rfl, S12.pot, by omega, upd_same, (S11.pot.ne nl).symm, (by show 1 ≤ 7; decide), (by show 7 ≤ 1000; decide), fun thing H16 _ P16 B16 => ?_⟩
      have S16 := S12.to B16 P16
      clear S1' S2 S3 S4 S5 S6 S7 S8 S9 S10 S11 S12 n1 n2 n3 n4 n5 n6 n7 n8 n9 n10 nl P16 B16
      dsimp only [gName]
      refine ⟨S16.tab, fun f1 c1 H17 e17 nn17 T17 nf1 hf1 hc1 => ?_⟩
      have S17 := S16.ext e17 T17
      refine ⟨by show 1 ≤ sizeLine; decide, fun lc nlc => ?_⟩
      have s18 := same_new (o := .lst [V.ref f1]) nlc
      have S18 := S17.same s18
      have hlc : (upd H17 lc (.lst [V.ref f1])) lc = some (.lst [V.ref f1]) := upd_same
      have lcp : lc ≠ p := (S17.pot.ne nlc).symm
      have lc0 : ∀ u, H2 lc = some u → (∀ ps, u ≠ .tbl ps) → False := fun u h n => by
        have := S17.keep _ _ h n
        rw [nlc] at this
        cases this
      have hf1 := s18 _ _ hf1
      have hc1 := s18 _ _ hc1
      obtain ⟨σ0, hσ0⟩ : ∃ σ0 : L2.St, σ0 = [some (.ref a), some (.int (i : Int)), some (.ref p), some (.int (n : Int)), some (.int (d : Int)), some (.ref a1), some (.int (0 + (j : Int))), some (.int (ff : Int)), some (.int (k : Int)), some thing, some (.ref lc), none, v12] := ⟨_, rfl⟩
      have g1 := good_mk (k := 8) (W := W20 K T.cTooS a1 u0 vs rows) (σ0 := σ0) hf1 hc1 ⟨LamX.lamS_by (sc := defScope sLaw) (by decide +kernel), by intros; rfl, fun A outer s H E f c' hr => (pe_call (ok_showsu T) hr (by rfl) T.gShowsU T.FShowsU.kp T.bShowsU .nil (passes_call (takes_of rfl rfl rfl rfl) (fun _ _ _ _ h => h)) (pa_cons (pv 3) (pa_cons (pv 5) (pa_cons (pv 7) (pa_cons (pv 8) (pa_cons (pv 9) pa_nil))))))⟩ (fun E H' Q' ⟨w1, w2, w3⟩ => by
        rw [hσ0]
        exact ⟨_, rfl, .ref a1, rfl, _, rfl, _, rfl, _, rfl, n, ff, k, a1, vs, rows, r0, u0, thing, rfl, w1, w2, hr0, hu0, fun _ => w3, fun h => absurd h (by omega)⟩)
      generalize upd H17 lc (.lst [V.ref f1]) = H18 at S18 hlc g1 ⊢
      clear hf1 hc1 s18 nlc S17 S16 nf1 nn17 e17 T17
      dsimp only [gName]
      refine ⟨.ref lc, rfl, .inl ⟨rfl, _, SqL.of hlc⟩, S18.tab, fun f2 c2 H19 e19 nn19 T19 nf2 hf2 hc2 => ?_⟩
      have S19 := S18.ext e19 T19
      have hlc19 := extN_lst e19 hlc
      have g1b := g1.ext e19
      have g2 := good_mk (k := 8) (W := W20 K T.cTooS a1 u0 vs rows) (σ0 := σ0) hf2 hc2 ⟨LamX.lamS_by (sc := defScope sLaw) (by decide +kernel), by intros; rfl, fun A outer s H E f c' hr => (pe_call (ok_iseven T) hr (by rfl) T.gIsEven T.FIsEven.kp T.bIsEven .nil (passes_call (takes_of rfl rfl rfl rfl) (fun _ _ _ _ h => h)) (pa_cons (pv 3) (pa_cons (pv 5) (pa_cons (pv 7) (pa_cons (pv 8) pa_nil)))))⟩ (fun E H' Q' ⟨w1, w2, w3⟩ => by
        rw [hσ0]
        exact ⟨_, rfl, .ref a1, rfl, _, rfl, _, rfl, n, ff, k, a1, u0, vs, rows, r0, rfl, w1, w2, hr0, hu0, by omega, w3⟩)
      refine ⟨lc, _, _, rfl, rfl, hlc19, (by show 1 < sizeLine; decide), ?_⟩
      have S20a := S19.lay (o := .lst ([V.ref f1] ++ [V.ref f2])) hlc19 lc0 lcp
      have g12 : ∀ v ∈ [V.ref f1] ++ [V.ref f2], GoodL _ 8 (W20 K T.cTooS a1 u0 vs rows) σ0 v (upd H19 lc (.lst ([V.ref f1] ++ [V.ref f2]))) := fun v hv => by
        rcases List.mem_cons.mp hv with rfl | hv
        · exact g1b.lay hlc19
        · rw [List.mem_singleton.mp hv]
          exact g2.lay hlc19
      have hl20 : (upd H19 lc (.lst ([V.ref f1] ++ [V.ref f2]))) lc = some (.lst ([V.ref f1] ++ [V.ref f2])) := upd_same
      generalize upd H19 lc (.lst ([V.ref f1] ++ [V.ref f2])) = H20 at S20a g12 hl20 ⊢
      clear g1 g1b g2 S19 S18 hlc hlc19 hf2 hc2 e19 nn19 T19 nf2
      refine ⟨fun σM HM => ∃ cs, σM = σ0 ∧ S20 (tabsOf T) K H2 HM p a1 (1000 + 10 * j + 1 + 1 + 1 + 1) vs rows ∧ HM lc = some (.lst cs) ∧ cs.length ≤ 3 ∧ ∀ v ∈ cs, GoodL (cxOf CX0 P w K mg base NLaw "law" (defScope sLaw) f (.ref T.ccLaw) A outer s H E).nox 8 (W20 K T.cTooS a1 u0 vs rows) σ0 v HM, ?_, ?_⟩
      · refine ⟨_, rfl, _, _, rfl, rfl, _, rfl, ite2 (fun c => ?_) (fun c => ?_)⟩
        · refine ⟨.ref lc, rfl, .inl ⟨rfl, _, SqL.of hl20⟩, S20a.tab, fun f3 c3 H21 e21 nn21 T21 nf3 hf3 hc3 => ?_⟩
          have S21 := S20a.ext e21 T21
          have hl21 := extN_lst e21 hl20
          have g3 := good_mk (k := 8) (W := W20 K T.cTooS a1 u0 vs rows) (σ0 := σ0) hf3 hc3 ⟨LamX.lamS_by (sc := defScope sLaw) (by decide +kernel), by intros; rfl, fun A outer s H E f c' hr => (pe_call (ok_unev T) hr (by rfl) T.gUnev T.FUnev.kp T.bUnev .nil (passes_call (takes_of rfl rfl rfl rfl) (fun _ _ _ _ h => h)) (pa_cons (pv 3) (pa_cons (pv 5) (pa_cons (pv 7) (pa_cons (pv 8) pa_nil)))))⟩ (fun E H' Q' ⟨w1, w2, w3⟩ => by
            rw [hσ0]
            exact ⟨_, rfl, .ref a1, rfl, _, rfl, _, rfl, n, ff, k, a1, u0, vs, rows, r0, rfl, w1, w2, hr0, hu0, by omega, w3⟩)
          refine ⟨lc, _, _, rfl, rfl, hl21, (by show 2 < sizeLine; decide), ?_⟩
          refine ⟨_, hσ0.symm, S21.lay hl21 lc0 lcp, upd_same, by show 3 ≤ 3; decide, fun v hv => ?_⟩
          rcases List.mem_append.mp hv with hv | hv
          · exact ((g12 v hv).ext e21).lay hl21
          · rw [List.mem_singleton.mp hv]
            exact g3.lay hl21
        · exact ⟨_, hσ0.symm, S20a, hl20, by show 2 ≤ 3; decide, g12⟩
      rintro σ H21 ⟨cs, eσ, S, hcs, cl, gd3⟩
      subst hσ0
      subst eσ
      refine ⟨.ref lc, rfl, lc, rfl, ⟨_, SqL.of hcs⟩, fun D nD => ?_⟩
      have sD := same_new (o := .lst []) nD
      have D0 : ∀ u, H2 D = some u → (∀ ps, u ≠ .tbl ps) → False := fun u h n => by
        have := S.keep _ _ h n
        rw [nD] at this
        cases this
      have Dp0 : D ≠ p := (S.pot.ne nD).symm
      have Dlc : D ≠ lc := fun e => by rw [e, hcs] at nD; cases nD
      refine lc_list (K := K) (a := lc) (xs := cs) (fun z HM => S20 (tabsOf T) K H2 HM p a1 (1000 + 10 * j + 1 + 1 + 1 + 1) vs rows ∧ HM lc = some (.lst cs) ∧ (∀ v ∈ cs, GoodL (cxOf CX0 P w K mg base NLaw "law" (defScope sLaw) f (.ref T.ccLaw) A outer s H E).nox 8 (W20 K T.cTooS a1 u0 vs rows) _ v HM) ∧ HM D = some (.lst ((List.replicate z true).map V.bl))) ⟨S.same sD, sD _ _ hcs, fun v hv => (gd3 v hv).ext (extN_same sD), upd_same⟩ (fun _ HM _ h => SqL.of h.2.1) ?_ ?_
      · rintro z v HM hz ⟨SM, hcM, gM, hDM⟩
        obtain ⟨fL, cL, params, body, scope, tL, rfl, lk, hfL, hcL, wL⟩ := gM v (List.mem_of_getElem? hz)
        refine ⟨rfl, fL, cL, params, body, scope, tL, rfl, lk, hfL, hcL, fun HN Q' sN => ⟨sN _ _ hfL, wL _ _ _ ⟨Same.seqT sN SM.sq, SM.row.gen20 fun z => Same.seqT sN z, fun H' dd sd hd nd => ⟨dd, .ref u0, rfl, rfl, hd, fun HO x sO nx hx => ?_⟩⟩⟩⟩
        have sMO := (sN.trans sd).trans sO
        have SO := SM.same sMO
        have hU := head20 SO.row hr0 hu0
        have sh := sh_pair20 (r0 := r0) (by omega) (fun y hy => by have := hx0 y hy; omega)
        refine ⟨.ref x, .list [.str "too short", .tuple (natD r0)], rfl, .inl ⟨.lst (SqL.of hx) (.cons (.str _) (.cons (.tup hU (dp_set r0)) .nil)), sh⟩, ?_⟩
        refine ⟨.ref a1, rfl, a1, vs, _, _, rfl, rfl, SO.sq, atI_nat (j := 0) (by rw [← List.head?_eq_getElem?]; exact hu0), by show 2 ≤ sizeLine; decide, fun y ny => ?_⟩
        have sy := same_new (o := .lst [V.str "too short", V.ref u0]) ny
        refine ⟨.ref y, .list [.str "too short", .tuple (natD r0)], rfl, .inl ⟨.lst (SqL.of upd_same) (.cons (.str _) (.cons (.tup (Same.seqT sy hU) (dp_set r0)) .nil)), sh⟩, rfl, ?_⟩
        rw [decide_eq_true rfl]
        have sMP := sMO.trans sy
        have hDP := sMP _ _ hDM
        refine ⟨_, hDP, by rw [List.length_map, List.length_replicate]; exact small1000 (by have := (List.getElem?_eq_some_iff.mp hz).1; omega), (SM.same sMP).lay hDP D0 Dp0, by rw [upd_ne Dlc.symm]; exact sMP _ _ hcM, fun v hv => ((gM v hv).ext (extN_same sMP)).lay hDP, ?_⟩
        rw [upd_same, rep_snoc20]
      rintro HM ⟨SM, hcM, gM, hDM⟩
      refine ⟨D, _, rfl, SqL.of hDM, ?_⟩
      rw [rep_all20]
      refine ⟨_, rfl, iteF ?_⟩
      exact ⟨_, _, _, _, _, rfl, SM.mono (by omega)⟩
    · rintro σ H11 ⟨v6, v7, v8, v9, v10, rfl, S⟩
      refine ⟨_, rfl, _, _, rfl, rfl, _, rfl, ite2 (fun c => ?_) (fun c => ?_)⟩
      · have hd2 : 1 < d := by
          have c : (1 : Int) < (d : Int) := of_decide_eq_true c
          omega
        refine ⟨_, rfl, .ref a1, rfl, _, rfl, _, _, rfl, rfl, ?_⟩
        refine ⟨by show 1 ≤ sizeLine; decide, fun t1 n1 => ?_⟩
        have s1 := same_new (o := .tup [V.int 0]) n1
        have h1 : (upd H11 t1 (.tup [V.int 0])) t1 = some (.tup [V.int 0]) := upd_same
        refine ⟨by show 1 ≤ sizeLine; decide, fun t2 n2 => ?_⟩
        have s2' := same_new (o := .tup [V.int 0]) n2
        have h2 : (upd (upd H11 t1 (.tup [V.int 0])) t2 (.tup [V.int 0])) t2 = some (.tup [V.int 0]) := upd_same
        refine ⟨by show 1 ≤ sizeLine; decide, fun t3 n3 => ?_⟩
        have s3 := same_new (o := .tup [V.int 0]) n3
        refine ⟨by show 3 ≤ sizeLine; decide, fun t4 n4 => ?_⟩
        have s4 := same_new (o := .tup [V.ref t1, V.ref t2, V.ref t3]) n4
        have S2 := S.same (((s1.trans s2').trans s3).trans s4)
        dsimp only
        refine ⟨n, d - 1, 1, a1, vs, rows, r0, u0, .ref t4, by rw [show (d : Int) - 1 = ((d - 1 : Nat) : Int) by omega]; rfl, S2.sq, S2.row, hr0, hu0, fun h => ?_, fun _ => ⟨⟨t4, t1, t2, t3, rfl, upd_same, SqT.of ((s2'.trans (s3.trans s4)) _ _ h1), SqT.of ((s3.trans s4) _ _ h2), SqT.of (s4 _ _ upd_same)⟩, by omega, fun H12 s12 => ?_⟩⟩
        · rw [hl0] at h
          omega
        refine ⟨_, rfl, _, _, rfl, rfl, _, rfl, iteF ?_⟩
        have S3 := S2.same s12
        exact ⟨_, _, _, _, _, _, _, _, _, _, _, rfl, LamX.ExtN.trans s2 S3.keep, S3.tab⟩
      · exact ⟨_, _, _, _, _, _, _, _, _, _, _, rfl, LamX.ExtN.trans s2 S.keep, S.tab⟩
end
theorem all_mk {l : PySem.W.OpenLaw} {w : World} {K : PySem.W.Frag} {h : Heap} {mg : Str → Option Value} {fa f1 f2 f3 f4 f5 f6 f7 f8 f9 f10 f11 f12 f13 f14 f15 f16 f17 f18 f19 f20 f21 f22 f23 f24 f25 f26 f27 f28 : Addr} (X : K.In h) (G : h.Ns mainGlobals mg) (hfa : mg "law" = some (.ref fa))
    {od1 an1 od2 an2 od3 an3 od4 an4 od5 an5 od6 an6 od7 an7 od8 an8 od9 an9 od10 an10 od11 an11 od12 an12 od13 an13 od14 an14 od15 an15 od16 an16 od17 an17 od18 an18 od19 an19 od20 an20 od21 an21 od22 an22 od23 an23 od24 an24 od25 an25 od26 an26 od27 an27 od28 an28 : Option Addr} {sl1 sl2 sl3 sl4 sl5 sl6 sl7 sl8 sl9 sl10 sl11 sl12 sl13 sl14 sl15 sl16 sl17 sl18 sl19 sl20 sl21 sl22 sl23 sl24 sl25 sl26 sl27 sl28 : Array (Option Value)} {oc1 kV1 dc1 pm1 cd1 ct1 oc2 kV2 dc2 pm2 cd2 ct2 oc3 kV3 dc3 pm3 cd3 ct3 oc4 kV4 dc4 pm4 cd4 ct4 oc5 kV5 dc5 pm5 cd5 ct5 oc6 kV6 dc6 pm6 cd6 ct6 oc7 kV7 dc7 pm7 cd7 ct7 oc8 kV8 dc8 pm8 cd8 ct8 oc9 kV9 dc9 pm9 cd9 ct9 oc10 kV10 dc10 pm10 cd10 ct10 oc11 kV11 dc11 pm11 cd11 ct11 oc12 kV12 dc12 pm12 cd12 ct12 oc13 kV13 dc13 pm13 cd13 ct13 oc14 kV14 dc14 pm14 cd14 ct14 oc15 kV15 dc15 pm15 cd15 ct15 oc16 kV16 dc16 pm16 cd16 ct16 oc17 kV17 dc17 pm17 cd17 ct17 oc18 kV18 dc18 pm18 cd18 ct18 oc19 kV19 dc19 pm19 cd19 ct19 oc20 kV20 dc20 pm20 cd20 ct20 oc21 kV21 dc21 pm21 cd21 ct21 oc22 kV22 dc22 pm22 cd22 ct22 oc23 kV23 dc23 pm23 cd23 ct23 oc24 kV24 dc24 pm24 cd24 ct24 oc25 kV25 dc25 pm25 cd25 ct25 oc26 kV26 dc26 pm26 cd26 ct26 oc27 kV27 dc27 pm27 cd27 ct27 oc28 kV28 dc28 pm28 cd28 ct28 : Value}
    {CBase CNotP CTooM CTooS fi2 fi3 fi4 : Addr}
    {nm2 q2 : Str} {N2 : Addr} {bs2 : List Value} {sn2 : List Str} {sub2 : List Value} {ab2 : Bool} {col2 : Option Bool} {dd2 : Option Addr} {m0_2 m1_2 m2_2 m3_2 m5_2 : Option Value} {odi2 ani2 : Option Addr} {sli2 : Array (Option Value)} {oci2 kVi2 dci2 pmi2 cdi2 cti2 : Value}
    {nm3 q3 : Str} {N3 : Addr} {bs3 : List Value} {sn3 : List Str} {sub3 : List Value} {ab3 : Bool} {col3 : Option Bool} {dd3 : Option Addr} {m0_3 m1_3 m2_3 m3_3 m5_3 : Option Value} {odi3 ani3 : Option Addr} {sli3 : Array (Option Value)} {oci3 kVi3 dci3 pmi3 cdi3 cti3 : Value}
    {nm4 q4 : Str} {N4 : Addr} {bs4 : List Value} {sn4 : List Str} {sub4 : List Value} {ab4 : Bool} {col4 : Option Bool} {dd4 : Option Addr} {m0_4 m1_4 m2_4 m3_4 m5_4 : Option Value} {odi4 ani4 : Option Addr} {sli4 : Array (Option Value)} {oci4 kVi4 dci4 pmi4 cdi4 cti4 : Value}
    {qq : Program} {tcLaw tpLaw : Addr}
    (a1 : PySem.W.nsIn K mainGlobals "is_plain_int" = some (some (.ref f1)))
    (l1 : K.lookup f1 = some ⟨oc1, od1, .func (PySem.W.fnOf "is_plain_int" "is_plain_int" (defArgs sPlain) (defBody sPlain) (defScope sPlain) .none kV1 dc1 pm1 an1 cd1 ct1), sl1⟩)
    (c1 : PySem.W.codeIn K cd1 "is_plain_int" = true)
    (k1 : PySem.W.keepIn K (.ref f1) = true)
    (a2 : PySem.W.nsIn K mainGlobals "binomial" = some (some (.ref f2)))
    (l2 : K.lookup f2 = some ⟨oc2, od2, .func (PySem.W.fnOf "binomial" "binomial" (defArgs sBin) (defBody sBin) (defScope sBin) .none kV2 dc2 pm2 an2 cd2 ct2), sl2⟩)
    (c2 : PySem.W.codeIn K cd2 "binomial" = true)
    (k2 : PySem.W.keepIn K (.ref f2) = true)
    (a3 : PySem.W.nsIn K mainGlobals "edge_divisor" = some (some (.ref f3)))
    (l3 : K.lookup f3 = some ⟨oc3, od3, .func (PySem.W.fnOf "edge_divisor" "edge_divisor" (defArgs sEdge) (defBody sEdge) (defScope sEdge) .none kV3 dc3 pm3 an3 cd3 ct3), sl3⟩)
    (c3 : PySem.W.codeIn K cd3 "edge_divisor" = true)
    (k3 : PySem.W.keepIn K (.ref f3) = true)
    (a4 : PySem.W.nsIn K mainGlobals "reach_of" = some (some (.ref f4)))
    (l4 : K.lookup f4 = some ⟨oc4, od4, .func (PySem.W.fnOf "reach_of" "reach_of" (defArgs sReachOf) (defBody sReachOf) (defScope sReachOf) .none kV4 dc4 pm4 an4 cd4 ct4), sl4⟩)
    (c4 : PySem.W.codeIn K cd4 "reach_of" = true)
    (k4 : PySem.W.keepIn K (.ref f4) = true)
    (a5 : PySem.W.nsIn K mainGlobals "count_level" = some (some (.ref f5)))
    (l5 : K.lookup f5 = some ⟨oc5, od5, .func (PySem.W.fnOf "count_level" "count_level" (defArgs sCLevel) (defBody sCLevel) (defScope sCLevel) .none kV5 dc5 pm5 an5 cd5 ct5), sl5⟩)
    (c5 : PySem.W.codeIn K cd5 "count_level" = true)
    (k5 : PySem.W.keepIn K (.ref f5) = true)
    (a6 : PySem.W.nsIn K mainGlobals "is_level" = some (some (.ref f6)))
    (l6 : K.lookup f6 = some ⟨oc6, od6, .func (PySem.W.fnOf "is_level" "is_level" (defArgs sIsLev) (defBody sIsLev) (defScope sIsLev) .none kV6 dc6 pm6 an6 cd6 ct6), sl6⟩)
    (c6 : PySem.W.codeIn K cd6 "is_level" = true)
    (k6 : PySem.W.keepIn K (.ref f6) = true)
    (a7 : PySem.W.nsIn K mainGlobals "is_set" = some (some (.ref f7)))
    (l7 : K.lookup f7 = some ⟨oc7, od7, .func (PySem.W.fnOf "is_set" "is_set" (defArgs sSet) (defBody sSet) (defScope sSet) .none kV7 dc7 pm7 an7 cd7 ct7), sl7⟩)
    (c7 : PySem.W.codeIn K cd7 "is_set" = true)
    (k7 : PySem.W.keepIn K (.ref f7) = true)
    (a8 : PySem.W.nsIn K mainGlobals "outside" = some (some (.ref f8)))
    (l8 : K.lookup f8 = some ⟨oc8, od8, .func (PySem.W.fnOf "outside" "outside" (defArgs sOut) (defBody sOut) (defScope sOut) .none kV8 dc8 pm8 an8 cd8 ct8), sl8⟩)
    (c8 : PySem.W.codeIn K cd8 "outside" = true)
    (k8 : PySem.W.keepIn K (.ref f8) = true)
    (a9 : PySem.W.nsIn K mainGlobals "joined" = some (some (.ref f9)))
    (l9 : K.lookup f9 = some ⟨oc9, od9, .func (PySem.W.fnOf "joined" "joined" (defArgs sJoined) (defBody sJoined) (defScope sJoined) .none kV9 dc9 pm9 an9 cd9 ct9), sl9⟩)
    (c9 : PySem.W.codeIn K cd9 "joined" = true)
    (k9 : PySem.W.keepIn K (.ref f9) = true)
    (a10 : PySem.W.nsIn K mainGlobals "sets_among" = some (some (.ref f10)))
    (l10 : K.lookup f10 = some ⟨oc10, od10, .func (PySem.W.fnOf "sets_among" "sets_among" (defArgs sAmong) (defBody sAmong) (defScope sAmong) .none kV10 dc10 pm10 an10 cd10 ct10), sl10⟩)
    (c10 : PySem.W.codeIn K cd10 "sets_among" = true)
    (k10 : PySem.W.keepIn K (.ref f10) = true)
    (a11 : PySem.W.nsIn K mainGlobals "holders" = some (some (.ref f11)))
    (l11 : K.lookup f11 = some ⟨oc11, od11, .func (PySem.W.fnOf "holders" "holders" (defArgs sHold) (defBody sHold) (defScope sHold) .none kV11 dc11 pm11 an11 cd11 ct11), sl11⟩)
    (c11 : PySem.W.codeIn K cd11 "holders" = true)
    (k11 : PySem.W.keepIn K (.ref f11) = true)
    (a12 : PySem.W.nsIn K mainGlobals "held_by_sets" = some (some (.ref f12)))
    (l12 : K.lookup f12 = some ⟨oc12, od12, .func (PySem.W.fnOf "held_by_sets" "held_by_sets" (defArgs sHelds) (defBody sHelds) (defScope sHelds) .none kV12 dc12 pm12 an12 cd12 ct12), sl12⟩)
    (c12 : PySem.W.codeIn K cd12 "held_by_sets" = true)
    (k12 : PySem.W.keepIn K (.ref f12) = true)
    (a13 : PySem.W.nsIn K mainGlobals "loads" = some (some (.ref f13)))
    (l13 : K.lookup f13 = some ⟨oc13, od13, .func (PySem.W.fnOf "loads" "loads" (defArgs sLoads) (defBody sLoads) (defScope sLoads) .none kV13 dc13 pm13 an13 cd13 ct13), sl13⟩)
    (c13 : PySem.W.codeIn K cd13 "loads" = true)
    (k13 : PySem.W.keepIn K (.ref f13) = true)
    (a14 : PySem.W.nsIn K mainGlobals "check_reached" = some (some (.ref f14)))
    (l14 : K.lookup f14 = some ⟨oc14, od14, .func (PySem.W.fnOf "check_reached" "check_reached" (defArgs sChkR) (defBody sChkR) (defScope sChkR) .none kV14 dc14 pm14 an14 cd14 ct14), sl14⟩)
    (c14 : PySem.W.codeIn K cd14 "check_reached" = true)
    (k14 : PySem.W.keepIn K (.ref f14) = true)
    (a15 : PySem.W.nsIn K mainGlobals "first_uneven_level" = some (some (.ref f15)))
    (l15 : K.lookup f15 = some ⟨oc15, od15, .func (PySem.W.fnOf "first_uneven_level" "first_uneven_level" (defArgs sFULev) (defBody sFULev) (defScope sFULev) .none kV15 dc15 pm15 an15 cd15 ct15), sl15⟩)
    (c15 : PySem.W.codeIn K cd15 "first_uneven_level" = true)
    (k15 : PySem.W.keepIn K (.ref f15) = true)
    (a16 : PySem.W.nsIn K mainGlobals "is_even" = some (some (.ref f16)))
    (l16 : K.lookup f16 = some ⟨oc16, od16, .func (PySem.W.fnOf "is_even" "is_even" (defArgs sIsEven) (defBody sIsEven) (defScope sIsEven) .none kV16 dc16 pm16 an16 cd16 ct16), sl16⟩)
    (c16 : PySem.W.codeIn K cd16 "is_even" = true)
    (k16 : PySem.W.keepIn K (.ref f16) = true)
    (a17 : PySem.W.nsIn K mainGlobals "servers_by_level_number" = some (some (.ref f17)))
    (l17 : K.lookup f17 = some ⟨oc17, od17, .func (PySem.W.fnOf "servers_by_level_number" "servers_by_level_number" (defArgs sSbl) (defBody sSbl) (defScope sSbl) .none kV17 dc17 pm17 an17 cd17 ct17), sl17⟩)
    (c17 : PySem.W.codeIn K cd17 "servers_by_level_number" = true)
    (k17 : PySem.W.keepIn K (.ref f17) = true)
    (a18 : PySem.W.nsIn K mainGlobals "unequal_sets" = some (some (.ref f18)))
    (l18 : K.lookup f18 = some ⟨oc18, od18, .func (PySem.W.fnOf "unequal_sets" "unequal_sets" (defArgs sUneq) (defBody sUneq) (defScope sUneq) .none kV18 dc18 pm18 an18 cd18 ct18), sl18⟩)
    (c18 : PySem.W.codeIn K cd18 "unequal_sets" = true)
    (k18 : PySem.W.keepIn K (.ref f18) = true)
    (a19 : PySem.W.nsIn K mainGlobals "witness_at" = some (some (.ref f19)))
    (l19 : K.lookup f19 = some ⟨oc19, od19, .func (PySem.W.fnOf "witness_at" "witness_at" (defArgs sWitn) (defBody sWitn) (defScope sWitn) .none kV19 dc19 pm19 an19 cd19 ct19), sl19⟩)
    (c19 : PySem.W.codeIn K cd19 "witness_at" = true)
    (k19 : PySem.W.keepIn K (.ref f19) = true)
    (a20 : PySem.W.nsIn K mainGlobals "uneven" = some (some (.ref f20)))
    (l20 : K.lookup f20 = some ⟨oc20, od20, .func (PySem.W.fnOf "uneven" "uneven" (defArgs sUnev) (defBody sUnev) (defScope sUnev) .none kV20 dc20 pm20 an20 cd20 ct20), sl20⟩)
    (c20 : PySem.W.codeIn K cd20 "uneven" = true)
    (k20 : PySem.W.keepIn K (.ref f20) = true)
    (a21 : PySem.W.nsIn K mainGlobals "is_claim" = some (some (.ref f21)))
    (l21 : K.lookup f21 = some ⟨oc21, od21, .func (PySem.W.fnOf "is_claim" "is_claim" (defArgs sIsClaim) (defBody sIsClaim) (defScope sIsClaim) .none kV21 dc21 pm21 an21 cd21 ct21), sl21⟩)
    (c21 : PySem.W.codeIn K cd21 "is_claim" = true)
    (k21 : PySem.W.keepIn K (.ref f21) = true)
    (a22 : PySem.W.nsIn K mainGlobals "shows_uneven" = some (some (.ref f22)))
    (l22 : K.lookup f22 = some ⟨oc22, od22, .func (PySem.W.fnOf "shows_uneven" "shows_uneven" (defArgs sShowsU) (defBody sShowsU) (defScope sShowsU) .none kV22 dc22 pm22 an22 cd22 ct22), sl22⟩)
    (c22 : PySem.W.codeIn K cd22 "shows_uneven" = true)
    (k22 : PySem.W.keepIn K (.ref f22) = true)
    (a23 : PySem.W.nsIn K mainGlobals "_law_pot" = some (some (.ref f23)))
    (l23 : K.lookup f23 = some ⟨oc23, od23, .func (PySem.W.fnOf "_law_pot" "_law_pot" (defArgs sPot) (defBody sPot) (defScope sPot) .none kV23 dc23 pm23 an23 cd23 ct23), sl23⟩)
    (c23 : PySem.W.codeIn K cd23 "_law_pot" = true)
    (k23 : PySem.W.keepIn K (.ref f23) = true)
    (a24 : PySem.W.nsIn K mainGlobals "_law_take" = some (some (.ref f24)))
    (l24 : K.lookup f24 = some ⟨oc24, od24, .func (PySem.W.fnOf "_law_take" "_law_take" (defArgs sTake) (defBody sTake) (defScope sTake) .none kV24 dc24 pm24 an24 cd24 ct24), sl24⟩)
    (c24 : PySem.W.codeIn K cd24 "_law_take" = true)
    (k24 : PySem.W.keepIn K (.ref f24) = true)
    (a25 : PySem.W.nsIn K mainGlobals "_law_of" = some (some (.ref f25)))
    (l25 : K.lookup f25 = some ⟨oc25, od25, .func (PySem.W.fnOf "_law_of" "_law_of" (defArgs sOf) (defBody sOf) (defScope sOf) .none kV25 dc25 pm25 an25 cd25 ct25), sl25⟩)
    (c25 : PySem.W.codeIn K cd25 "_law_of" = true)
    (k25 : PySem.W.keepIn K (.ref f25) = true)
    (a26 : PySem.W.nsIn K mainGlobals "_law_mixed" = some (some (.ref f26)))
    (l26 : K.lookup f26 = some ⟨oc26, od26, .func (PySem.W.fnOf "_law_mixed" "_law_mixed" (defArgs sMixed) (defBody sMixed) (defScope sMixed) .none kV26 dc26 pm26 an26 cd26 ct26), sl26⟩)
    (c26 : PySem.W.codeIn K cd26 "_law_mixed" = true)
    (k26 : PySem.W.keepIn K (.ref f26) = true)
    (a27 : PySem.W.nsIn K mainGlobals "_law_called" = some (some (.ref f27)))
    (l27 : K.lookup f27 = some ⟨oc27, od27, .func (PySem.W.fnOf "_law_called" "_law_called" (defArgs sCalled20) (defBody sCalled20) (defScope sCalled20) .none kV27 dc27 pm27 an27 cd27 ct27), sl27⟩)
    (c27 : PySem.W.codeIn K cd27 "_law_called" = true)
    (k27 : PySem.W.keepIn K (.ref f27) = true)
    (a28 : PySem.W.nsIn K mainGlobals "law" = some (some (.ref f28)))
    (l28 : K.lookup f28 = some ⟨oc28, od28, .func (PySem.W.fnOf "law" "law" (defArgs sLaw) (defBody sLaw) (defScope sLaw) .none kV28 dc28 pm28 an28 cd28 ct28), sl28⟩)
    (c28 : PySem.W.codeIn K cd28 "law" = true)
    (k28 : PySem.W.keepIn K (.ref f28) = true)
    (ac1 : PySem.W.nsIn K mainGlobals "FailoverError" = some (some (.ref CBase)))
    (bsp : PySem.W.specialIn K (.ref CBase) "__getattribute__" = some (some (.builtin "type.__getattribute__")))
    (bty : PySem.W.typeIn K (.ref CBase) = some (.type "type"))
    (brd : PySem.W.readsIn K CBase (.type "type") = true)
    (bfc : PySem.W.findCls K (.ref CBase) (.type "type") "__init__" = some (.val (.builtin "ValueError.__init__")))
    (bex : PySem.W.subIn K (.ref CBase) (.type "BaseException") = some true)
    (bhd : PySem.W.hasDictIn K CBase = true)
    (ac2 : PySem.W.nsIn K mainGlobals "NotPossible" = some (some (.ref CNotP)))
    (e2_xL : K.lookup CNotP = some (excClassObj nm2 q2 CNotP N2 bs2 [.ref CBase, .type "ValueError", .type "Exception", .type "BaseException", .type "object"] true sn2 sub2 ab2 col2 dd2 m0_2 m1_2 m2_2 m3_2 m5_2 "ValueError.__new__"))
    (e2_sa : PySem.W.findIn K (.ref CNotP) "__setattr__" = some (some (.builtin "object.__setattr__")))
    (e2_ga : PySem.W.findIn K (.ref CNotP) "__getattribute__" = some (some (.builtin "BaseException.__getattribute__")))
    (e2_gg : PySem.W.findIn K (.ref CNotP) "__getattr__" = some none)
    (e2_nb : PySem.W.findIn K (.ref CNotP) "count" = some none)
    (e2_ai : PySem.W.findIn K (.ref CNotP) "__init__" = some (some (.ref fi2)))
    (e2_ti : PySem.W.typeIn K (.ref fi2) = some (.type "function"))
    (e2_li : K.lookup fi2 = some ⟨oci2, odi2, .func (PySem.W.fnOf "__init__" "NotPossible.__init__" (defArgs sNotP) (defBody sNotP) (defScope sNotP) .none kVi2 dci2 pmi2 ani2 cdi2 cti2), sli2⟩)
    (e2_ci : PySem.W.codeIn K cdi2 "NotPossible.__init__" = true)
    (e2_ki : PySem.W.keepIn K (.ref fi2) = true)
    (e2_kC : PySem.W.keepIn K (.ref CNotP) = true)
    (e2_eC : PySem.W.subIn K (.ref CNotP) (.type "BaseException") = some true)
    (e2_tC : PySem.W.typeIn K (.ref CNotP) = some (.type "type"))
    (e2_hC : PySem.W.hasDictIn K CNotP = true)
    (e2_cC : PySem.W.findIn K (.ref CNotP) "__class__" = some (some (.builtin "object.__class__")))
    (e2_gC : PySem.W.specialIn K (.builtin "object.__class__") "__get__" = some (some (.builtin "getset_descriptor.__get__")))
    (e2_kk : PySem.W.takesIn K (.builtin "object.__class__") = some true)
    (e2_mC : PySem.W.mroIn K CNotP (.type "object") = some true)
    (e2_sB : PySem.W.subIn K (.ref CNotP) (.ref CBase) = some true)
    (ac3 : PySem.W.nsIn K mainGlobals "TooMany" = some (some (.ref CTooM)))
    (e3_xL : K.lookup CTooM = some (excClassObj nm3 q3 CTooM N3 bs3 [.ref CBase, .type "ValueError", .type "Exception", .type "BaseException", .type "object"] true sn3 sub3 ab3 col3 dd3 m0_3 m1_3 m2_3 m3_3 m5_3 "ValueError.__new__"))
    (e3_sa : PySem.W.findIn K (.ref CTooM) "__setattr__" = some (some (.builtin "object.__setattr__")))
    (e3_ga : PySem.W.findIn K (.ref CTooM) "__getattribute__" = some (some (.builtin "BaseException.__getattribute__")))
    (e3_gg : PySem.W.findIn K (.ref CTooM) "__getattr__" = some none)
    (e3_nb : PySem.W.findIn K (.ref CTooM) "count" = some none)
    (e3_ai : PySem.W.findIn K (.ref CTooM) "__init__" = some (some (.ref fi3)))
    (e3_ti : PySem.W.typeIn K (.ref fi3) = some (.type "function"))
    (e3_li : K.lookup fi3 = some ⟨oci3, odi3, .func (PySem.W.fnOf "__init__" "TooMany.__init__" (defArgs sTooM) (defBody sTooM) (defScope sTooM) .none kVi3 dci3 pmi3 ani3 cdi3 cti3), sli3⟩)
    (e3_ci : PySem.W.codeIn K cdi3 "TooMany.__init__" = true)
    (e3_ki : PySem.W.keepIn K (.ref fi3) = true)
    (e3_kC : PySem.W.keepIn K (.ref CTooM) = true)
    (e3_eC : PySem.W.subIn K (.ref CTooM) (.type "BaseException") = some true)
    (e3_tC : PySem.W.typeIn K (.ref CTooM) = some (.type "type"))
    (e3_hC : PySem.W.hasDictIn K CTooM = true)
    (e3_cC : PySem.W.findIn K (.ref CTooM) "__class__" = some (some (.builtin "object.__class__")))
    (e3_gC : PySem.W.specialIn K (.builtin "object.__class__") "__get__" = some (some (.builtin "getset_descriptor.__get__")))
    (e3_kk : PySem.W.takesIn K (.builtin "object.__class__") = some true)
    (e3_mC : PySem.W.mroIn K CTooM (.type "object") = some true)
    (e3_sB : PySem.W.subIn K (.ref CTooM) (.ref CBase) = some true)
    (ac4 : PySem.W.nsIn K mainGlobals "TooShort" = some (some (.ref CTooS)))
    (e4_xL : K.lookup CTooS = some (excClassObj nm4 q4 CTooS N4 bs4 [.ref CBase, .type "ValueError", .type "Exception", .type "BaseException", .type "object"] true sn4 sub4 ab4 col4 dd4 m0_4 m1_4 m2_4 m3_4 m5_4 "ValueError.__new__"))
    (e4_sa : PySem.W.findIn K (.ref CTooS) "__setattr__" = some (some (.builtin "object.__setattr__")))
    (e4_ga : PySem.W.findIn K (.ref CTooS) "__getattribute__" = some (some (.builtin "BaseException.__getattribute__")))
    (e4_gg : PySem.W.findIn K (.ref CTooS) "__getattr__" = some none)
    (e4_nb : PySem.W.findIn K (.ref CTooS) "order" = some none)
    (e4_ai : PySem.W.findIn K (.ref CTooS) "__init__" = some (some (.ref fi4)))
    (e4_ti : PySem.W.typeIn K (.ref fi4) = some (.type "function"))
    (e4_li : K.lookup fi4 = some ⟨oci4, odi4, .func (PySem.W.fnOf "__init__" "TooShort.__init__" (defArgs sTooS) (defBody sTooS) (defScope sTooS) .none kVi4 dci4 pmi4 ani4 cdi4 cti4), sli4⟩)
    (e4_ci : PySem.W.codeIn K cdi4 "TooShort.__init__" = true)
    (e4_ki : PySem.W.keepIn K (.ref fi4) = true)
    (e4_kC : PySem.W.keepIn K (.ref CTooS) = true)
    (e4_eC : PySem.W.subIn K (.ref CTooS) (.type "BaseException") = some true)
    (e4_tC : PySem.W.typeIn K (.ref CTooS) = some (.type "type"))
    (e4_hC : PySem.W.hasDictIn K CTooS = true)
    (e4_cC : PySem.W.findIn K (.ref CTooS) "__class__" = some (some (.builtin "object.__class__")))
    (e4_gC : PySem.W.specialIn K (.builtin "object.__class__") "__get__" = some (some (.builtin "getset_descriptor.__get__")))
    (e4_kk : PySem.W.takesIn K (.builtin "object.__class__") = some true)
    (e4_mC : PySem.W.mroIn K CTooS (.type "object") = some true)
    (e4_sB : PySem.W.subIn K (.ref CTooS) (.ref CBase) = some true)
    (kt_kitNot : PySem.W.kitAny K (.ref CTooS) [.ref CNotP, .ref CTooM] = some false)
    (kt_kitMe : PySem.W.kitOne K (.ref CTooS) (.ref CTooS) = some true)
    (kt_kitVal : PySem.W.kitOne K (.ref CTooS) (.type "ValueError") = some true)
    (z1 : PySem.W.nsIn K mainGlobals "ValueError" = some none)
    (z2 : PySem.W.nsIn K mainGlobals "abs" = some none)
    (z3 : PySem.W.nsIn K mainGlobals "all" = some none)
    (z4 : PySem.W.nsIn K mainGlobals "bool" = some none)
    (z5 : PySem.W.nsIn K mainGlobals "int" = some none)
    (z6 : PySem.W.nsIn K mainGlobals "isinstance" = some none)
    (z7 : PySem.W.nsIn K mainGlobals "len" = some none)
    (z8 : PySem.W.nsIn K mainGlobals "list" = some none)
    (z9 : PySem.W.nsIn K mainGlobals "max" = some none)
    (z10 : PySem.W.nsIn K mainGlobals "min" = some none)
    (z11 : PySem.W.nsIn K mainGlobals "range" = some none)
    (z12 : PySem.W.nsIn K mainGlobals "repr" = some none)
    (z13 : PySem.W.nsIn K mainGlobals "set" = some none)
    (z14 : PySem.W.nsIn K mainGlobals "sorted" = some none)
    (z15 : PySem.W.nsIn K mainGlobals "tuple" = some none)
    (tbLaw : PySem.W.tabIn K "law" = some (tcLaw, tpLaw))
    (tnLaw : K.lookup tpLaw = none)
    (trLaw : ((recsOf qq).find? fun e => e.name == ("law" : Str)).isSome = true)
    : LawT qq l w K 11 63 "_law_script" mg fa := by
  have e := hfa.symm.trans (PySem.W.mg_of X G a28)
  cases e
  have F1 := fun_mk (st := sPlain) l1 c1 k1
  have b1 := F1.binds (ps := ["thing"]) fun _ _ _ _ _ _ us hl => match us, hl with | [_], _ => rfl
  have F2 := fun_mk (st := sBin) l2 c2 k2
  have b2 := F2.binds (ps := ["n", "k"]) fun _ _ _ _ _ _ us hl => match us, hl with | [_, _], _ => rfl
  have F3 := fun_mk (st := sEdge) l3 c3 k3
  have b3 := F3.binds (ps := ["n", "size"]) fun _ _ _ _ _ _ us hl => match us, hl with | [_, _], _ => rfl
  have F4 := fun_mk (st := sReachOf) l4 c4 k4
  have b4 := F4.binds (ps := ["n", "failures", "factor"]) fun _ _ _ _ _ _ us hl => match us, hl with | [_, _, _], _ => rfl
  have F5 := fun_mk (st := sCLevel) l5 c5 k5
  have b5 := F5.binds (ps := ["table", "size"]) fun _ _ _ _ _ _ us hl => match us, hl with | [_, _], _ => rfl
  have F6 := fun_mk (st := sIsLev) l6 c6 k6
  have b6 := F6.binds (ps := ["n", "table", "size"]) fun _ _ _ _ _ _ us hl => match us, hl with | [_, _, _], _ => rfl
  have F7 := fun_mk (st := sSet) l7 c7 k7
  have b7 := F7.binds (ps := ["n", "thing"]) fun _ _ _ _ _ _ us hl => match us, hl with | [_, _], _ => rfl
  have F8 := fun_mk (st := sOut) l8 c8 k8
  have b8 := F8.binds (ps := ["n", "members"]) fun _ _ _ _ _ _ us hl => match us, hl with | [_, _], _ => rfl
  have F9 := fun_mk (st := sJoined) l9 c9 k9
  have b9 := F9.binds (ps := ["members", "server"]) fun _ _ _ _ _ _ us hl => match us, hl with | [_, _], _ => rfl
  have F10 := fun_mk (st := sAmong) l10 c10 k10
  have b10 := F10.binds (ps := ["servers", "size"]) fun _ _ _ _ _ _ us hl => match us, hl with | [_, _], _ => rfl
  have F11 := fun_mk (st := sHold) l11 c11 k11
  have b11 := F11.binds (ps := ["order", "live", "factor"]) fun _ _ _ _ _ _ us hl => match us, hl with | [_, _, _], _ => rfl
  have F12 := fun_mk (st := sHelds) l12 c12 k12
  have b12 := F12.binds (ps := ["table", "live", "factor"]) fun _ _ _ _ _ _ us hl => match us, hl with | [_, _, _], _ => rfl
  have F13 := fun_mk (st := sLoads) l13 c13 k13
  have b13 := F13.binds (ps := ["n", "table", "live", "factor"]) fun _ _ _ _ _ _ us hl => match us, hl with | [_, _, _, _], _ => rfl
  have F14 := fun_mk (st := sChkR) l14 c14 k14
  have b14 := F14.binds (ps := ["n", "table", "failures", "factor"]) fun _ _ _ _ _ _ us hl => match us, hl with | [_, _, _, _], _ => rfl
  have F15 := fun_mk (st := sFULev) l15 c15 k15
  have b15 := F15.binds (ps := ["n", "table", "failures", "factor"]) fun _ _ _ _ _ _ us hl => match us, hl with | [_, _, _, _], _ => rfl
  have F16 := fun_mk (st := sIsEven) l16 c16 k16
  have b16 := F16.binds (ps := ["n", "table", "failures", "factor"]) fun _ _ _ _ _ _ us hl => match us, hl with | [_, _, _, _], _ => rfl
  have F17 := fun_mk (st := sSbl) l17 c17 k17
  have b17 := F17.binds (ps := ["table", "size"]) fun _ _ _ _ _ _ us hl => match us, hl with | [_, _], _ => rfl
  have F18 := fun_mk (st := sUneq) l18 c18 k18
  have b18 := F18.binds (ps := ["n", "table", "live", "size"]) fun _ _ _ _ _ _ us hl => match us, hl with | [_, _, _, _], _ => rfl
  have F19 := fun_mk (st := sWitn) l19 c19 k19
  have b19 := F19.binds (ps := ["n", "table", "size", "factor"]) fun _ _ _ _ _ _ us hl => match us, hl with | [_, _, _, _], _ => rfl
  have F20 := fun_mk (st := sUnev) l20 c20 k20
  have b20 := F20.binds (ps := ["n", "table", "failures", "factor"]) fun _ _ _ _ _ _ us hl => match us, hl with | [_, _, _, _], _ => rfl
  have F21 := fun_mk (st := sIsClaim) l21 c21 k21
  have b21 := F21.binds (ps := ["n", "failures", "factor", "thing"]) fun _ _ _ _ _ _ us hl => match us, hl with | [_, _, _, _], _ => rfl
  have F22 := fun_mk (st := sShowsU) l22 c22 k22
  have b22 := F22.binds (ps := ["n", "table", "failures", "factor", "thing"]) fun _ _ _ _ _ _ us hl => match us, hl with | [_, _, _, _, _], _ => rfl
  have F23 := fun_mk (st := sPot) l23 c23 k23
  have b23 := F23.binds (ps := ["_law_script", "_law_k"]) fun _ _ _ _ _ _ us hl => match us, hl with | [_, _], _ => rfl
  have F24 := fun_mk (st := sTake) l24 c24 k24
  have b24 := F24.binds (ps := ["_law_pot_here", "_law_size"]) fun _ _ _ _ _ _ us hl => match us, hl with | [_, _], _ => rfl
  have F25 := fun_mk (st := sOf) l25 c25 k25
  have b25 := F25.binds (ps := ["_law_pot_here", "_law_some"]) fun _ _ _ _ _ _ us hl => match us, hl with | [_, _], _ => rfl
  have F26 := fun_mk (st := sMixed) l26 c26 k26
  have b26 := F26.binds (ps := ["_law_pot_here", "_law_some"]) fun _ _ _ _ _ _ us hl => match us, hl with | [_, _], _ => rfl
  have F27 := fun_mk (st := sCalled20) l27 c27 k27
  have b27 := F27.binds (ps := ["_law_call"]) fun _ _ _ _ _ _ us hl => match us, hl with | [_], _ => rfl
  have F28 := fun_mk (st := sLaw) l28 c28 k28
  have FI2 := fun_mk (st := sNotP) e2_li e2_ci e2_ki
  have bI2 := FI2.binds (ps := ["self", "count"]) fun _ _ _ _ _ _ us hl => match us, hl with | [_, _], _ => rfl
  have ER2 : ErrT K CNotP fi2 "count" CBase := ⟨⟨⟨nm2, q2, N2, bs2, _, sn2, sub2, ab2, col2, dd2, m0_2, m1_2, m2_2, m3_2, m5_2, e2_xL, by first | rfl | decide +kernel⟩, e2_sa, e2_eC, e2_tC, e2_kC⟩, ⟨e2_ga, e2_gg, e2_eC, e2_hC⟩, ⟨e2_ga, e2_gg, e2_eC, e2_hC, e2_cC, e2_gC, e2_kk, e2_mC⟩, e2_nb, e2_ai, e2_ti, PySem.W.exm_ref bex bhd bty e2_sB⟩
  have FI3 := fun_mk (st := sTooM) e3_li e3_ci e3_ki
  have bI3 := FI3.binds (ps := ["self", "count"]) fun _ _ _ _ _ _ us hl => match us, hl with | [_, _], _ => rfl
  have ER3 : ErrT K CTooM fi3 "count" CBase := ⟨⟨⟨nm3, q3, N3, bs3, _, sn3, sub3, ab3, col3, dd3, m0_3, m1_3, m2_3, m3_3, m5_3, e3_xL, by first | rfl | decide +kernel⟩, e3_sa, e3_eC, e3_tC, e3_kC⟩, ⟨e3_ga, e3_gg, e3_eC, e3_hC⟩, ⟨e3_ga, e3_gg, e3_eC, e3_hC, e3_cC, e3_gC, e3_kk, e3_mC⟩, e3_nb, e3_ai, e3_ti, PySem.W.exm_ref bex bhd bty e3_sB⟩
  have FI4 := fun_mk (st := sTooS) e4_li e4_ci e4_ki
  have bI4 := FI4.binds (ps := ["self", "order"]) fun _ _ _ _ _ _ us hl => match us, hl with | [_, _], _ => rfl
  have ER4 : ErrT K CTooS fi4 "order" CBase := ⟨⟨⟨nm4, q4, N4, bs4, _, sn4, sub4, ab4, col4, dd4, m0_4, m1_4, m2_4, m3_4, m5_4, e4_xL, by first | rfl | decide +kernel⟩, e4_sa, e4_eC, e4_tC, e4_kC⟩, ⟨e4_ga, e4_gg, e4_eC, e4_hC⟩, ⟨e4_ga, e4_gg, e4_eC, e4_hC, e4_cC, e4_gC, e4_kk, e4_mC⟩, e4_nb, e4_ai, e4_ti, PySem.W.exm_ref bex bhd bty e4_sB⟩
  let T : Txt K mg := ⟨f1, _, F1, b1, PySem.W.mg_of X G a1, f2, _, F2, b2, PySem.W.mg_of X G a2, f3, _, F3, b3, PySem.W.mg_of X G a3, f4, _, F4, b4, PySem.W.mg_of X G a4, f5, _, F5, b5, PySem.W.mg_of X G a5, f6, _, F6, b6, PySem.W.mg_of X G a6, f7, _, F7, b7, PySem.W.mg_of X G a7, f8, _, F8, b8, PySem.W.mg_of X G a8, f9, _, F9, b9, PySem.W.mg_of X G a9, f10, _, F10, b10, PySem.W.mg_of X G a10, f11, _, F11, b11, PySem.W.mg_of X G a11, f12, _, F12, b12, PySem.W.mg_of X G a12, f13, _, F13, b13, PySem.W.mg_of X G a13, f14, _, F14, b14, PySem.W.mg_of X G a14, f15, _, F15, b15, PySem.W.mg_of X G a15, f16, _, F16, b16, PySem.W.mg_of X G a16, f17, _, F17, b17, PySem.W.mg_of X G a17, f18, _, F18, b18, PySem.W.mg_of X G a18, f19, _, F19, b19, PySem.W.mg_of X G a19, f20, _, F20, b20, PySem.W.mg_of X G a20, f21, _, F21, b21, PySem.W.mg_of X G a21, f22, _, F22, b22, PySem.W.mg_of X G a22, f23, _, F23, b23, PySem.W.mg_of X G a23, f24, _, F24, b24, PySem.W.mg_of X G a24, f25, _, F25, b25, PySem.W.mg_of X G a25, f26, _, F26, b26, PySem.W.mg_of X G a26, f27, _, F27, b27, PySem.W.mg_of X G a27, CBase, PySem.W.mg_of X G ac1, ⟨bsp, bty, brd, bfc⟩, CNotP, PySem.W.mg_of X G ac2, fi2, _, FI2, bI2, ER2, CTooM, PySem.W.mg_of X G ac3, fi3, _, FI3, bI3, ER3, CTooS, PySem.W.mg_of X G ac4, fi4, _, FI4, bI4, ER4, kt_kitNot, kt_kitMe, kt_kitVal, PySem.W.mg_none_of X G z1, PySem.W.mg_none_of X G z2, PySem.W.mg_none_of X G z3, PySem.W.mg_none_of X G z4, PySem.W.mg_none_of X G z5, PySem.W.mg_none_of X G z6, PySem.W.mg_none_of X G z7, PySem.W.mg_none_of X G z8, PySem.W.mg_none_of X G z9, PySem.W.mg_none_of X G z10, PySem.W.mg_none_of X G z11, PySem.W.mg_none_of X G z12, PySem.W.mg_none_of X G z13, PySem.W.mg_none_of X G z14, PySem.W.mg_none_of X G z15, tcLaw, tpLaw⟩
  refine ⟨PySem.W.fnOf "law" "law" (defArgs sLaw) (defBody sLaw) (defScope sLaw) .none kV28 dc28 pm28 an28 cd28 ct28, [("law", tcLaw, tpLaw)], spLaw K (tabsOf T), ?_, fun s v => .of_eq rfl, fun H a ns hl hT hS => ⟨a, ns, rfl, hS, hl, ?_, fun _ => rfl⟩, fun base _ _ hB => ok_law F28 T (codeOf_tab a28 tbLaw) ⟨hB ("law", tcLaw, tpLaw) (by simp)⟩⟩
  · intro p hp
    simp only [List.mem_cons, List.not_mem_nil, or_false] at hp
    rcases hp with rfl
    · exact ⟨tbLaw, tnLaw, trLaw⟩
  · intro p hp
    unfold tabsOf at hp
    simp only [List.mem_cons, List.not_mem_nil, or_false] at hp
    rcases hp with rfl
    · exact LamX.TabS.nil (hT ("law", tcLaw, tpLaw) (by simp))
end Ef
open PySem PySem.W PyProof.Rows
set_option maxRecDepth 100000 in
set_option maxHeartbeats 0 in
theorem PySem.Challenge.cw_evenfailover_k20_tables_that_are_too_sho_holds : PySem.Challenge.rw_evenfailover_k20_tables_that_are_too_sho.Holds := by
  w_on; o_law; k_head; (case hw => w_witness2)
  k_fill
  refine Ef.lawGT (l := PySem.Challenge.rw_evenfailover_k20_tables_that_are_too_sho) (n := 63) (k := 11) (x := "_law_script") rfl (by decide) rfl ⟨rfl, by decide, by decide⟩ (fun w h Y => PySem.W.km_in_of Y) ?F
  case F =>
    intro w mg fa h KX G hmg
    refine' Ef.all_mk KX G hmg ?a1 ?l1 ?c1 ?k1 ?a2 ?l2 ?c2 ?k2 ?a3 ?l3 ?c3 ?k3 ?a4 ?l4 ?c4 ?k4 ?a5 ?l5 ?c5 ?k5 ?a6 ?l6 ?c6 ?k6 ?a7 ?l7 ?c7 ?k7 ?a8 ?l8 ?c8 ?k8 ?a9 ?l9 ?c9 ?k9 ?a10 ?l10 ?c10 ?k10 ?a11 ?l11 ?c11 ?k11 ?a12 ?l12 ?c12 ?k12 ?a13 ?l13 ?c13 ?k13 ?a14 ?l14 ?c14 ?k14 ?a15 ?l15 ?c15 ?k15 ?a16 ?l16 ?c16 ?k16 ?a17 ?l17 ?c17 ?k17 ?a18 ?l18 ?c18 ?k18 ?a19 ?l19 ?c19 ?k19 ?a20 ?l20 ?c20 ?k20 ?a21 ?l21 ?c21 ?k21 ?a22 ?l22 ?c22 ?k22 ?a23 ?l23 ?c23 ?k23 ?a24 ?l24 ?c24 ?k24 ?a25 ?l25 ?c25 ?k25 ?a26 ?l26 ?c26 ?k26 ?a27 ?l27 ?c27 ?k27 ?a28 ?l28 ?c28 ?k28 ?ac1 ?bsp ?bty ?brd ?bfc ?bex ?bhd ?ac2 ?e2_xL ?e2_sa ?e2_ga ?e2_gg ?e2_nb ?e2_ai ?e2_ti ?e2_li ?e2_ci ?e2_ki ?e2_kC ?e2_eC ?e2_tC ?e2_hC ?e2_cC ?e2_gC ?e2_kk ?e2_mC ?e2_sB ?ac3 ?e3_xL ?e3_sa ?e3_ga ?e3_gg ?e3_nb ?e3_ai ?e3_ti ?e3_li ?e3_ci ?e3_ki ?e3_kC ?e3_eC ?e3_tC ?e3_hC ?e3_cC ?e3_gC ?e3_kk ?e3_mC ?e3_sB ?ac4 ?e4_xL ?e4_sa ?e4_ga ?e4_gg ?e4_nb ?e4_ai ?e4_ti ?e4_li ?e4_ci ?e4_ki ?e4_kC ?e4_eC ?e4_tC ?e4_hC ?e4_cC ?e4_gC ?e4_kk ?e4_mC ?e4_sB ?kt_kitNot ?kt_kitMe ?kt_kitVal ?z1 ?z2 ?z3 ?z4 ?z5 ?z6 ?z7 ?z8 ?z9 ?z10 ?z11 ?z12 ?z13 ?z14 ?z15 ?tbLaw ?tnLaw ?trLaw
    (case a1 => k_is)
    (case l1 => k_is)
    (case c1 => k_is)
    (case k1 => k_is)
    (case a2 => k_is)
    (case l2 => k_is)
    (case c2 => k_is)
    (case k2 => k_is)
    (case a3 => k_is)
    (case l3 => k_is)
    (case c3 => k_is)
    (case k3 => k_is)
    (case a4 => k_is)
    (case l4 => k_is)
    (case c4 => k_is)
    (case k4 => k_is)
    (case a5 => k_is)
    (case l5 => k_is)
    (case c5 => k_is)
    (case k5 => k_is)
    (case a6 => k_is)
    (case l6 => k_is)
    (case c6 => k_is)
    (case k6 => k_is)
    (case a7 => k_is)
    (case l7 => k_is)
    (case c7 => k_is)
    (case k7 => k_is)
    (case a8 => k_is)
    (case l8 => k_is)
    (case c8 => k_is)
    (case k8 => k_is)
    (case a9 => k_is)
    (case l9 => k_is)
    (case c9 => k_is)
    (case k9 => k_is)
    (case a10 => k_is)
    (case l10 => k_is)
    (case c10 => k_is)
    (case k10 => k_is)
    (case a11 => k_is)
    (case l11 => k_is)
    (case c11 => k_is)
    (case k11 => k_is)
    (case a12 => k_is)
    (case l12 => k_is)
    (case c12 => k_is)
    (case k12 => k_is)
    (case a13 => k_is)
    (case l13 => k_is)
    (case c13 => k_is)
    (case k13 => k_is)
    (case a14 => k_is)
    (case l14 => k_is)
    (case c14 => k_is)
    (case k14 => k_is)
    (case a15 => k_is)
    (case l15 => k_is)
    (case c15 => k_is)
    (case k15 => k_is)
    (case a16 => k_is)
    (case l16 => k_is)
    (case c16 => k_is)
    (case k16 => k_is)
    (case a17 => k_is)
    (case l17 => k_is)
    (case c17 => k_is)
    (case k17 => k_is)
    (case a18 => k_is)
    (case l18 => k_is)
    (case c18 => k_is)
    (case k18 => k_is)
    (case a19 => k_is)
    (case l19 => k_is)
    (case c19 => k_is)
    (case k19 => k_is)
    (case a20 => k_is)
    (case l20 => k_is)
    (case c20 => k_is)
    (case k20 => k_is)
    (case a21 => k_is)
    (case l21 => k_is)
    (case c21 => k_is)
    (case k21 => k_is)
    (case a22 => k_is)
    (case l22 => k_is)
    (case c22 => k_is)
    (case k22 => k_is)
    (case a23 => k_is)
    (case l23 => k_is)
    (case c23 => k_is)
    (case k23 => k_is)
    (case a24 => k_is)
    (case l24 => k_is)
    (case c24 => k_is)
    (case k24 => k_is)
    (case a25 => k_is)
    (case l25 => k_is)
    (case c25 => k_is)
    (case k25 => k_is)
    (case a26 => k_is)
    (case l26 => k_is)
    (case c26 => k_is)
    (case k26 => k_is)
    (case a27 => k_is)
    (case l27 => k_is)
    (case c27 => k_is)
    (case k27 => k_is)
    (case a28 => k_is)
    (case l28 => k_is)
    (case c28 => k_is)
    (case k28 => k_is)
    (case ac1 => k_is)
    (case bsp => k_is)
    (case bty => k_is)
    (case brd => k_is)
    (case bfc => k_is)
    (case bex => k_is)
    (case bhd => k_is)
    (case ac2 => k_is)
    (case e2_xL => k_is)
    (case e2_sa => k_is)
    (case e2_ga => k_is)
    (case e2_gg => k_is)
    (case e2_nb => k_is)
    (case e2_ai => k_is)
    (case e2_ti => k_is)
    (case e2_li => k_is)
    (case e2_ci => k_is)
    (case e2_ki => k_is)
    (case e2_kC => k_is)
    (case e2_eC => k_is)
    (case e2_tC => k_is)
    (case e2_hC => k_is)
    (case e2_cC => k_is)
    (case e2_gC => k_is)
    (case e2_kk => k_is)
    (case e2_mC => k_is)
    (case e2_sB => first | k_is | rfl | k_exc | kernel_rfl)
    (case ac3 => k_is)
    (case e3_xL => k_is)
    (case e3_sa => k_is)
    (case e3_ga => k_is)
    (case e3_gg => k_is)
    (case e3_nb => k_is)
    (case e3_ai => k_is)
    (case e3_ti => k_is)
    (case e3_li => k_is)
    (case e3_ci => k_is)
    (case e3_ki => k_is)
    (case e3_kC => k_is)
    (case e3_eC => k_is)
    (case e3_tC => k_is)
    (case e3_hC => k_is)
    (case e3_cC => k_is)
    (case e3_gC => k_is)
    (case e3_kk => k_is)
    (case e3_mC => k_is)
    (case e3_sB => first | k_is | rfl | k_exc | kernel_rfl)
    (case ac4 => k_is)
    (case e4_xL => k_is)
    (case e4_sa => k_is)
    (case e4_ga => k_is)
    (case e4_gg => k_is)
    (case e4_nb => k_is)
    (case e4_ai => k_is)
    (case e4_ti => k_is)
    (case e4_li => k_is)
    (case e4_ci => k_is)
    (case e4_ki => k_is)
    (case e4_kC => k_is)
    (case e4_eC => k_is)
    (case e4_tC => k_is)
    (case e4_hC => k_is)
    (case e4_cC => k_is)
    (case e4_gC => k_is)
    (case e4_kk => k_is)
    (case e4_mC => k_is)
    (case e4_sB => first | k_is | rfl | k_exc | kernel_rfl)
    (case kt_kitNot => first | k_is | rfl | k_exc | kernel_rfl)
    (case kt_kitMe => first | k_is | rfl | k_exc | kernel_rfl)
    (case kt_kitVal => first | k_is | rfl | k_exc | kernel_rfl)
    (case z1 => k_is)
    (case z2 => k_is)
    (case z3 => k_is)
    (case z4 => k_is)
    (case z5 => k_is)
    (case z6 => k_is)
    (case z7 => k_is)
    (case z8 => k_is)
    (case z9 => k_is)
    (case z10 => k_is)
    (case z11 => k_is)
    (case z12 => k_is)
    (case z13 => k_is)
    (case z14 => k_is)
    (case z15 => k_is)
    (case tbLaw => first | k_is | rfl | decide +kernel)
    (case tnLaw => first | k_is | rfl | decide +kernel)
    (case trLaw => first | k_is | rfl | decide +kernel)

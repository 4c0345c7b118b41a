import PyProof.Rows.All
import Wide.All
import OpenK.AllK
import Wide.FinOn
import HandS.ForMost
import HandS.RaiseMore
import HandS.Strs
import HandS.SetFor
import HandS.Conv
import HandS.Wide
import HandS.IsInst
import HandS.Codes
import HandS.TupAny
import HandS.ForExc
import HandS.ExcInit
import HandS.ExcField
import HandS.ExcIs
import HandS.ExcOwn
import HandS.TupSets
import HandS.Walk
import HandS.RevRange
import HandS.Rev
import HandS.Style
import HandS.DictComp
import KE.GoesMore
import KE.KTupSum
import HandS.TupMul
import HandS.Deep
import KE.SortData
import HandS.Comp
import KE.KeyNested
import HandS.DictSubView
import HandS.TupLen
import KE.KDictSum
import KE.KDictWalk
import PyProof.DictMoreH
import KE.KDictDisplayH
import KE.KDictItemsList
import PySem.Challenge.RW_evenfailover_k35_least_number_of_weighte
set_option Elab.async false
set_option linter.all false
set_option maxRecDepth 100000
set_option maxHeartbeats 4000000
namespace Ef
/-- Pascal's triangle -/
def C : Nat → Nat → Nat
  | _, 0 => 1
  | 0, _ + 1 => 0
  | n + 1, k + 1 => C n k + C n (k + 1)
theorem C_zero (n : Nat) : C n 0 = 1 := by cases n <;> rfl
theorem C_zs (k : Nat) : C 0 (k + 1) = 0 := rfl
theorem C_ss (n k : Nat) : C (n + 1) (k + 1) = C n k + C n (k + 1) := rfl
theorem C_big : ∀ (n k : Nat), n < k → C n k = 0
  | 0, k + 1, _ => rfl
  | n + 1, k + 1, h => by
    rw [C_ss, C_big n k (by omega), C_big n (k + 1) (by omega)]
theorem C_self : ∀ n : Nat, C n n = 1
  | 0 => rfl
  | n + 1 => by rw [C_ss, C_self n, C_big n (n + 1) (by omega)]
theorem C_absorb : ∀ (n k : Nat), C (n + 1) (k + 1) * (k + 1) = (n + 1) * C n k
  | 0, 0 => rfl
  | 0, k + 1 => by
    rw [C_ss, C_zs, C_zs]; simp
  | n + 1, 0 => by
    have h := C_absorb n 0
    rw [C_zero] at h
    rw [C_ss, C_zero]
    omega
  | n + 1, j + 1 => by
    have h1 := C_absorb n j
    have h2 := C_absorb n (j + 1)
    have e : C (n + 1) (j + 1) = C n j + C n (j + 1) := C_ss n j
    rw [C_ss (n + 1) (j + 1)]
    have a1 : (C (n + 1) (j + 1) + C (n + 1) (j + 1 + 1)) * (j + 1 + 1) = C (n + 1) (j + 1) * (j + 1) + C (n + 1) (j + 1) + C (n + 1) (j + 1 + 1) * (j + 1 + 1) := by
      rw [Nat.add_mul, Nat.mul_succ (C (n + 1) (j + 1)) (j + 1)]
    rw [a1, h1, h2]
    have a2 : (n + 1 + 1) * C (n + 1) (j + 1) = (n + 1) * C (n + 1) (j + 1) + C (n + 1) (j + 1) := Nat.succ_mul _ _
    rw [a2]
    have a3 : (n + 1) * C (n + 1) (j + 1) = (n + 1) * C n j + (n + 1) * C n (j + 1) := by rw [e, Nat.mul_add]
    rw [a3]
    omega
theorem C_step (n k : Nat) (h : k ≤ n) : C n (k + 1) * (k + 1) = C n k * (n - k) := by
  have h1 := C_absorb n k
  rw [C_ss, Nat.add_mul] at h1
  have h2 : (n + 1) * C n k = C n k * (k + 1) + C n k * (n - k) := by
    rw [← Nat.mul_add, Nat.mul_comm]
    congr 1
    omega
  omega
theorem C_symm : ∀ (n k : Nat), k ≤ n → C n k = C n (n - k)
  | n, 0, _ => by rw [C_zero, Nat.sub_zero, C_self]
  | n + 1, k + 1, h => by
    by_cases e : k = n
    · subst e
      rw [C_self, Nat.sub_self, C_zero]
    · have e1 : n + 1 - (k + 1) = (n - (k + 1)) + 1 := by omega
      rw [e1, C_ss, C_ss, ← C_symm n (k + 1) (by omega), show n - (k + 1) + 1 = n - k by omega, ← C_symm n k (by omega), Nat.add_comm]
theorem C_le : ∀ (n k : Nat), C n k ≤ 2 ^ n
  | n, 0 => by rw [C_zero]; exact Nat.one_le_two_pow
  | 0, k + 1 => by rw [C_zs]; exact Nat.zero_le _
  | n + 1, k + 1 => by
    have a := C_le n k
    have b := C_le n (k + 1)
    rw [C_ss, Nat.pow_succ]
    omega
theorem C_pos : ∀ (n k : Nat), k ≤ n → 0 < C n k
  | n, 0, _ => by rw [C_zero]; decide
  | n + 1, k + 1, h => by
    rw [C_ss]
    have := C_pos n k (by omega)
    omega
theorem C_min (n k : Nat) (h : k ≤ n) : C n (min k (n - k)) = C n k := by
  by_cases e : k ≤ n - k
  · rw [Nat.min_eq_left e]
  · rw [Nat.min_eq_right (by omega), ← C_symm n k h]
theorem C_60 (n k : Nat) (h : n ≤ 60) : C n k ≤ 1152921504606846976 := Nat.le_trans (C_le n k) (Nat.le_trans (Nat.pow_le_pow_right (by decide) h) (by decide))
/-- what the program's binomial answers -/
def binZ (n k : Int) : Int := if k < 0 ∨ n < k then 0 else (C n.toNat k.toNat : Int)
theorem binZ_nat (n k : Nat) : binZ n k = (C n k : Int) := by
  unfold binZ
  by_cases h : n < k
  · rw [if_pos (by omega), C_big n k h]; rfl
  · rw [if_neg (by omega)]; simp
/-- one step of its product -/
theorem C_div (n s : Nat) (h : s < n) : ((C n s : Int) * ((n : Int) + 1 - (1 + (s : Int)))) / (1 + (s : Int)) = (C n (s + 1) : Int) := by
  have e : (C n s : Int) * ((n : Int) + 1 - (1 + (s : Int))) = (C n (s + 1) : Int) * (1 + (s : Int)) := by
    have h1 := C_step n s (by omega)
    have h2 : ((n : Int) + 1 - (1 + (s : Int))) = ((n - s : Nat) : Int) := by omega
    have h3 : (1 + (s : Int)) = ((s + 1 : Nat) : Int) := by omega
    rw [h2, h3, ← Int.natCast_mul, ← Int.natCast_mul, h1]
  rw [e]
  exact Int.mul_ediv_cancel _ (by omega)
end Ef
namespace Ef
/-! ### the least numbers of lists -/
def stepL (a b : Nat) : Nat := a / Nat.gcd a b * b
def leastL (n : Nat) : Nat → Nat
  | 0 => 1
  | d + 1 => stepL (leastL n d) (n * C (n - 1) d)
theorem stepL_pos {a b : Nat} (ha : 0 < a) (hb : 0 < b) : 0 < stepL a b := by
  unfold stepL
  have h1 : Nat.gcd a b ≤ a := Nat.gcd_le_left b ha
  have h2 : 0 < Nat.gcd a b := Nat.gcd_pos_of_pos_left b ha
  exact Nat.mul_pos (Nat.div_pos h1 h2) hb
theorem edge_pos {n d : Nat} (h : d < n) : 0 < n * C (n - 1) d := Nat.mul_pos (by omega) (C_pos _ _ (by omega))
theorem leastL_pos {n : Nat} : ∀ {d : Nat}, d ≤ n → 0 < leastL n d
  | 0, _ => Nat.one_pos
  | d + 1, h => stepL_pos (leastL_pos (by omega)) (edge_pos (by omega))
theorem C_adj : ∀ (n k : Nat), C n k + C n (k + 1) ≤ 2 ^ n
  | 0, 0 => by decide
  | 0, k + 1 => by
    rw [C_zs, C_zs]
    decide
  | n + 1, 0 => by
    have h := C_adj n 0
    have h1 : 1 ≤ 2 ^ n := Nat.one_le_two_pow
    rw [C_zero] at h
    rw [C_ss, C_zero, C_zero, Nat.pow_succ]
    omega
  | n + 1, j + 1 => by
    have h := C_adj n j
    have h2 := C_adj n (j + 1)
    rw [C_ss, C_ss, Nat.pow_succ]
    omega
theorem C_half (n k : Nat) (h : 1 ≤ n) : C n k ≤ 2 ^ (n - 1) := by
  obtain ⟨m, rfl⟩ : ∃ m, n = m + 1 := ⟨n - 1, by omega⟩
  cases k with
  | zero =>
    rw [C_zero]
    exact Nat.one_le_two_pow
  | succ k => exact C_adj m k
theorem edge_lt {n d : Nat} (h : n ≤ 60) : n * C (n - 1) d < 18446744073709551616 := by
  by_cases h1 : n ≤ 1
  · have e : n - 1 = 0 := by omega
    have h2 : C (n - 1) d ≤ 2 ^ 0 := by rw [e]; exact C_le 0 d
    exact Nat.lt_of_le_of_lt (Nat.mul_le_mul h1 h2) (by decide)
  · have h2 : C (n - 1) d ≤ 2 ^ 58 := Nat.le_trans (C_half (n - 1) d (by omega)) (Nat.pow_le_pow_right (by decide) (by omega))
    exact Nat.lt_of_le_of_lt (Nat.mul_le_mul h h2) (by decide)
/-! rows of the triangle, reckoned one from the other -/
def nextRow : List Nat → List Nat := fun r => 1 :: List.zipWith (· + ·) r r.tail
def isRow (n : Nat) (r : List Nat) : Prop := ∀ k, k ≤ 60 → r[k]? = some (C n k)
theorem nextRow_is {n : Nat} {r : List Nat} (h : isRow n r) : ∀ k, k ≤ 60 → (nextRow r)[k]? = some (C (n + 1) k)
  | 0, _ => by
    rw [C_zero]
    rfl
  | k + 1, hk => by
    have h1 := h k (by omega)
    have h2 := h (k + 1) hk
    unfold nextRow
    rw [List.getElem?_cons_succ, List.getElem?_zipWith, h1, List.getElem?_tail, h2]
    rfl
def row0 : List Nat := 1 :: List.replicate 60 0
theorem row0_is : isRow 0 row0 := fun k hk => by
  cases k with
  | zero => rfl
  | succ k =>
    unfold row0
    rw [List.getElem?_cons_succ, List.getElem?_replicate, if_pos (by omega)]
    rfl
/-- P holds along the chain of least numbers: f of each -/
def chainOk (n : Nat) (f : Nat → Nat → Bool) : Nat → Nat → Nat → List Nat → Bool
  | 0, d, a, _ => f d a
  | m + 1, d, a, c :: r => f d a && chainOk n f m (d + 1) (stepL a (n * c)) r
  | _ + 1, _, _, [] => false
theorem chain_all {n : Nat} {f : Nat → Nat → Bool} {row : List Nat} (hr : isRow (n - 1) row) (hn : n ≤ 60) : ∀ (m d : Nat), d + m = n → chainOk n f m d (leastL n d) (row.drop d) = true → ∀ e, d ≤ e → e ≤ n → f e (leastL n e) = true
  | 0, d, h, ok, e, h1, h2 => by
    have e1 : e = d := by omega
    subst e1
    exact ok
  | m + 1, d, h, ok, e, h1, h2 => by
    have hd := hr d (by omega)
    have hlt : d < row.length := (List.getElem?_eq_some_iff.mp hd).1
    have hdr : row.drop d = C (n - 1) d :: row.drop (d + 1) := by
      rw [List.drop_eq_getElem_cons hlt]
      congr 1
      rw [List.getElem?_eq_getElem hlt] at hd
      exact Option.some.inj hd
    rw [hdr] at ok
    have ok2 : (f d (leastL n d) && chainOk n f m (d + 1) (leastL n (d + 1)) (row.drop (d + 1))) = true := ok
    rw [Bool.and_eq_true] at ok2
    by_cases c : e = d
    · rw [c]
      exact ok2.1
    · exact chain_all hr hn m (d + 1) (by omega) ok2.2 e (by omega) h2
def rowsOk (f : Nat → Nat → Nat → Bool) : Nat → Nat → List Nat → Bool
  | 0, _, _ => true
  | m + 1, n, row => chainOk n (f n) n 0 1 row && rowsOk f m (n + 1) (nextRow row)
theorem rows_all {f : Nat → Nat → Nat → Bool} : ∀ (m n : Nat) (row : List Nat), isRow (n - 1) row → 1 ≤ n → rowsOk f m n row = true → ∀ k, n ≤ k → k < n + m → k ≤ 60 → ∀ d, d ≤ k → f k d (leastL k d) = true
  | 0, _, _, _, _, _, k, h1, h2, _, _, _ => by omega
  | m + 1, n, row, hr, h0, ok, k, h1, h2, h6, d, hd => by
    have ok2 : (chainOk n (f n) n 0 1 row && rowsOk f m (n + 1) (nextRow row)) = true := ok
    rw [Bool.and_eq_true] at ok2
    by_cases c : k = n
    · subst c
      exact chain_all hr h6 k 0 (by omega) ok2.1 d (by omega) hd
    · have hr2 : isRow (n + 1 - 1) (nextRow row) := fun j hj => by
        have e : n + 1 - 1 = (n - 1) + 1 := by omega
        rw [e]
        exact nextRow_is hr j hj
      exact rows_all m (n + 1) (nextRow row) hr2 (by omega) ok2.2 k (by omega) (by omega) h6 d hd
theorem small_ok : rowsOk (fun _ _ a => Nat.blt a (2 ^ 100)) 60 1 row0 = true := by decide +kernel
theorem leastL_lt {n d : Nat} (h1 : 1 ≤ n) (h6 : n ≤ 60) (hd : d ≤ n) : leastL n d < 2 ^ 100 := by
  have h := rows_all 60 1 row0 row0_is (by decide) small_ok n h1 (by omega) h6 d hd
  have h2 : Nat.blt (leastL n d) (2 ^ 100) = true := h
  rw [Nat.blt_eq] at h2
  exact h2
end Ef
namespace Ef
/-! ### the standard table -/
theorem stepL_left (a b : Nat) (ha : 0 < a) : a ∣ stepL a b := by
  unfold stepL
  have h1 : Nat.gcd a b ∣ a := Nat.gcd_dvd_left a b
  have h2 : Nat.gcd a b ∣ b := Nat.gcd_dvd_right a b
  refine ⟨b / Nat.gcd a b, ?_⟩
  obtain ⟨x, hx⟩ := h1
  obtain ⟨y, hy⟩ := h2
  have g0 : 0 < Nat.gcd a b := Nat.gcd_pos_of_pos_left b ha
  generalize Nat.gcd a b = g at hx hy g0
  subst hx hy
  rw [Nat.mul_div_cancel_left _ g0, Nat.mul_div_cancel_left _ g0, Nat.mul_comm g x, Nat.mul_assoc]
theorem stepL_right (a b : Nat) : b ∣ stepL a b := ⟨a / Nat.gcd a b, Nat.mul_comm _ _⟩
theorem leastL_dvd {n : Nat} : ∀ {d : Nat}, d ≤ n → ∀ b, b < d → n * C (n - 1) b ∣ leastL n d
  | 0, _, b, h => by omega
  | d + 1, hd, b, h => by
    by_cases e : b = d
    · subst e
      exact stepL_right _ _
    · exact Nat.dvd_trans (leastL_dvd (by omega) b (by omega)) (stepL_left _ _ (leastL_pos (by omega)))
/-- width of a block at a level -/
def wd (n c s : Nat) : Nat := c / (n * C (n - 1) s)
theorem wd_eq {n c s : Nat} (h : n * C (n - 1) s ∣ c) : wd n c s * (n * C (n - 1) s) = c := Nat.div_mul_cancel h
theorem wd_pos {n c s : Nat} (h : n * C (n - 1) s ∣ c) (hc : 0 < c) : 0 < wd n c s := by
  have e := wd_eq h
  cases z : wd n c s with
  | zero =>
    rw [z, Nat.zero_mul] at e
    omega
  | succ k => omega
theorem wd_step {n c b : Nat} (h1 : n * C (n - 1) b ∣ c) (h2 : n * C (n - 1) (b + 1) ∣ c) (hb : b + 1 < n) : wd n c b * (b + 1) = wd n c (b + 1) * (n - (b + 1)) := by
  have e1 := wd_eq h1
  have e2 := wd_eq h2
  have s := C_step (n - 1) b (by omega)
  have p : 0 < n * C (n - 1) b := edge_pos (by omega)
  have x1 : wd n c b * (b + 1) * (n * C (n - 1) b) = c * (b + 1) := by
    rw [Nat.mul_right_comm, e1]
  have x2 : wd n c (b + 1) * (n - (b + 1)) * (n * C (n - 1) b) = c * (b + 1) := by
    have y : wd n c (b + 1) * (n * C (n - 1) (b + 1)) * (b + 1) = c * (b + 1) := by rw [e2]
    rw [← y, Nat.mul_assoc, Nat.mul_assoc (wd n c (b + 1)), Nat.mul_assoc n, s, show n - 1 - b = n - (b + 1) by omega]
    congr 1
    rw [Nat.mul_comm (n - (b + 1)), Nat.mul_assoc]
  exact Nat.eq_of_mul_eq_mul_right p (x1.trans x2.symm)
theorem wd_zero {n c : Nat} (h : n * C (n - 1) 0 ∣ c) : wd n c 0 * n = c := by
  have e := wd_eq h
  rw [C_zero, Nat.mul_one] at e
  exact e
theorem wd_le (n c s : Nat) : wd n c s ≤ c := Nat.div_le_self _ _
/-- what 'follow' takes and what it leaves -/
def fol (n c : Nat) : List Nat → List Nat → Nat → List Nat × Nat
  | [], _, r => ([], r)
  | s :: ss, L, r => (L.getD (r / wd n c s) 0 :: (fol n c ss (L.eraseIdx (r / wd n c s)) (wd n c s * (L.getD (r / wd n c s) 0 - r / wd n c s) + r % wd n c s)).1,
      (fol n c ss (L.eraseIdx (r / wd n c s)) (wd n c s * (L.getD (r / wd n c s) 0 - r / wd n c s) + r % wd n c s)).2)
def FolOk (n c : Nat) : List Nat → List Nat → Nat → Prop
  | [], _, _ => True
  | s :: ss, L, r => 0 < wd n c s ∧ r / wd n c s < L.length ∧ r / wd n c s ≤ L.getD (r / wd n c s) 0 ∧
      FolOk n c ss (L.eraseIdx (r / wd n c s)) (wd n c s * (L.getD (r / wd n c s) 0 - r / wd n c s) + r % wd n c s)
theorem fol_cons (n c s : Nat) (ss L : List Nat) (r : Nat) : fol n c (s :: ss) L r = (L.getD (r / wd n c s) 0 :: (fol n c ss (L.eraseIdx (r / wd n c s)) (wd n c s * (L.getD (r / wd n c s) 0 - r / wd n c s) + r % wd n c s)).1, (fol n c ss (L.eraseIdx (r / wd n c s)) (wd n c s * (L.getD (r / wd n c s) 0 - r / wd n c s) + r % wd n c s)).2) := rfl
theorem fol_len (n c : Nat) : ∀ ss L r, (fol n c ss L r).1.length = ss.length
  | [], _, _ => rfl
  | s :: ss, L, r => congrArg (· + 1) (fol_len n c ss _ _)
/-- ascending -/
abbrev Asc (L : List Nat) : Prop := L.Pairwise (· < ·)
theorem getD_of {L : List Nat} {i : Nat} (h : i < L.length) : L[i]? = some (L.getD i 0) := by
  rw [List.getD_eq_getElem?_getD, List.getElem?_eq_getElem h]
  rfl
/-- an ascending list counted from lo -/
theorem asc_from : ∀ {L : List Nat} {lo : Nat}, Asc L → (∀ x ∈ L, lo ≤ x) → ∀ {i x : Nat}, L[i]? = some x → lo + i ≤ x
  | [], _, _, _, _, _, h => by cases h
  | y :: L, lo, a, hl, 0, x, h => by
    obtain rfl : y = x := Option.some.inj h
    exact hl y List.mem_cons_self
  | y :: L, lo, a, hl, i + 1, x, h => by
    have h1 : L[i]? = some x := h
    have hy := hl y List.mem_cons_self
    have h2 := asc_from (L := L) (lo := lo + 1) (List.pairwise_cons.mp a).2 (fun z hz => by
      have := (List.pairwise_cons.mp a).1 z hz
      omega) h1
    omega
theorem asc_ge {L : List Nat} (a : Asc L) {i x : Nat} (h : L[i]? = some x) : i ≤ x := by
  have := asc_from a (lo := 0) (fun _ _ => Nat.zero_le _) h
  omega
theorem asc_le : ∀ {L : List Nat} {n : Nat}, Asc L → (∀ x ∈ L, x < n) → ∀ {i x : Nat}, L[i]? = some x → x + (L.length - i) ≤ n
  | [], _, _, _, _, _, h => by cases h
  | [y], n, _, hl, 0, x, h => by
    obtain rfl : y = x := Option.some.inj h
    have := hl y List.mem_cons_self
    show y + 1 ≤ n
    omega
  | y :: z :: L, n, a, hl, 0, x, h => by
    obtain rfl : y = x := Option.some.inj h
    have h1 := asc_le (L := z :: L) (List.pairwise_cons.mp a).2 (fun u hu => hl u (List.mem_cons_of_mem _ hu)) (i := 0) (x := z) rfl
    have h2 := (List.pairwise_cons.mp a).1 z List.mem_cons_self
    have e : (y :: z :: L).length = (z :: L).length + 1 := rfl
    omega
  | y :: L, n, a, hl, i + 1, x, h => by
    have h1 := asc_le (L := L) (List.pairwise_cons.mp a).2 (fun u hu => hl u (List.mem_cons_of_mem _ hu)) (i := i) (x := x) h
    have e : (y :: L).length = L.length + 1 := rfl
    omega
theorem asc_erase {L : List Nat} (a : Asc L) (i : Nat) : Asc (L.eraseIdx i) := a.sublist (List.eraseIdx_sublist L i)
/-- the way forward keeps within its bounds -/
theorem folOk_path {n c d : Nat} (hd : ∀ b, b < d → n * C (n - 1) b ∣ c) (hc : 0 < c) (hdn : d ≤ n) : ∀ (m b : Nat) (L : List Nat) (r : Nat), b + m = d → Asc L → (∀ x ∈ L, x < n) → L.length = n - b → (b < d → r < wd n c b * (n - b)) → FolOk n c (List.range' b m) L r
  | 0, _, _, _, _, _, _, _, _ => trivial
  | m + 1, b, L, r, e, a, hl, hlen, hr => by
    have hb := hd b (by omega)
    have w0 := wd_pos hb hc
    have hr2 := hr (by omega)
    have hi : r / wd n c b < L.length := by
      rw [hlen]
      exact Nat.div_lt_of_lt_mul hr2
    have hx := getD_of hi
    have g1 := asc_ge a hx
    have g2 := asc_le a hl hx
    refine ⟨w0, hi, g1, ?_⟩
    refine folOk_path hd hc hdn m (b + 1) _ _ (by omega) (asc_erase a _) (fun x hx => hl x (List.mem_of_mem_eraseIdx hx)) ?_ (fun hlt => ?_)
    · rw [List.length_eraseIdx, if_pos hi]
      omega
    · rw [← wd_step hb (hd (b + 1) hlt) (by omega)]
      have h1 : r % wd n c b < wd n c b := Nat.mod_lt _ w0
      have h2 : L.getD (r / wd n c b) 0 - r / wd n c b ≤ b := by omega
      have h3 : wd n c b * (L.getD (r / wd n c b) 0 - r / wd n c b) ≤ wd n c b * b := Nat.mul_le_mul_left _ h2
      rw [Nat.mul_add, Nat.mul_one]
      omega
/-- count of lists and depth that go together -/
structure Std (n d c : Nat) : Prop where
  n60 : n ≤ 60
  n1 : 1 ≤ n
  dn : d ≤ n
  c0 : 0 < c
  dv : leastL n d ∣ c
theorem Std.dvd {n d c : Nat} (h : Std n d c) (b : Nat) (hb : b < d) : n * C (n - 1) b ∣ c := Nat.dvd_trans (leastL_dvd h.dn b hb) h.dv
def path (n d c k : Nat) : List Nat × Nat := fol n c (List.range' 0 d) (List.range' 0 n) k
theorem asc_range' : ∀ (m b : Nat), Asc (List.range' b m) := fun m b => List.pairwise_lt_range'
theorem mem_range0 {n x : Nat} : x ∈ List.range' 0 n ↔ x < n := by
  rw [List.mem_range']
  exact ⟨fun ⟨i, h1, h2⟩ => by omega, fun h => ⟨x, h, by omega⟩⟩
theorem path_ok {n d c k : Nat} (h : Std n d c) (hk : k < c) : FolOk n c (List.range' 0 d) (List.range' 0 n) k :=
  folOk_path h.dvd h.c0 h.dn d 0 _ _ (by omega) (asc_range' n 0) (fun x hx => mem_range0.mp hx) (by rw [List.length_range']; omega) fun hd => by
    rw [Nat.sub_zero, wd_zero (h.dvd 0 hd)]
    exact hk
theorem fol_mem {n c : Nat} : ∀ {ss L : List Nat} {r : Nat}, FolOk n c ss L r → ∀ x ∈ (fol n c ss L r).1, x ∈ L
  | [], _, _, _, x, hx => by cases hx
  | s :: ss, L, r, ok, x, hx => by
    rw [fol_cons] at hx
    obtain ⟨_, h2, _, ok2⟩ := ok
    rcases List.mem_cons.mp hx with rfl | hx
    · exact List.mem_of_getElem? (getD_of h2)
    · exact List.mem_of_mem_eraseIdx (fol_mem ok2 x hx)
theorem nodup_inj {L : List Nat} (hn : L.Nodup) {i j x : Nat} (h1 : L[i]? = some x) (h2 : L[j]? = some x) : i = j := by
  obtain ⟨a1, a2⟩ := List.getElem?_eq_some_iff.mp h1
  obtain ⟨b1, b2⟩ := List.getElem?_eq_some_iff.mp h2
  rcases Nat.lt_trichotomy i j with c | c | c
  · exact absurd (a2.trans b2.symm) (List.pairwise_iff_getElem.mp hn i j a1 b1 c)
  · exact c
  · exact absurd (b2.trans a2.symm) (List.pairwise_iff_getElem.mp hn j i b1 a1 c)
theorem not_mem_erase {L : List Nat} {i x : Nat} (hn : L.Nodup) (h : L[i]? = some x) : x ∉ L.eraseIdx i := by
  intro hm
  obtain ⟨k, hk⟩ := List.getElem?_of_mem hm
  rw [List.getElem?_eraseIdx] at hk
  split at hk
  · have := nodup_inj hn hk h
    omega
  · have := nodup_inj hn hk h
    omega
theorem fol_nodup {n c : Nat} : ∀ {ss L : List Nat} {r : Nat}, FolOk n c ss L r → L.Nodup → (fol n c ss L r).1.Nodup
  | [], _, _, _, _ => List.nodup_nil
  | s :: ss, L, r, ok, hn => by
    rw [fol_cons]
    obtain ⟨_, h2, _, ok2⟩ := ok
    refine List.nodup_cons.mpr ⟨fun hx => not_mem_erase hn (getD_of h2) (fol_mem ok2 _ hx), fol_nodup ok2 (hn.sublist (List.eraseIdx_sublist _ _))⟩
theorem asc_nodup {L : List Nat} (h : Asc L) : L.Nodup := h.imp fun z => Nat.ne_of_lt z
theorem path_nodup {n d c k : Nat} (h : Std n d c) (hk : k < c) : (path n d c k).1.Nodup := fol_nodup (path_ok h hk) (asc_nodup (asc_range' n 0))
theorem path_lt {n d c k : Nat} (h : Std n d c) (hk : k < c) : ∀ x ∈ (path n d c k).1, x < n := fun x hx => mem_range0.mp (fol_mem (path_ok h hk) x hx)
theorem path_len (n d c k : Nat) : (path n d c k).1.length = d := by
  unfold path
  rw [fol_len, List.length_range']
theorem fol_rest {n c d : Nat} (hd : ∀ b, b < d → n * C (n - 1) b ∣ c) (hc : 0 < c) (hdn : d ≤ n) : ∀ (m b : Nat) (L : List Nat) (r : Nat), b + m = d → Asc L → (∀ x ∈ L, x < n) → L.length = n - b → (b < d → r < wd n c b * (n - b)) → r < c → (fol n c (List.range' b m) L r).2 < c
  | 0, _, _, _, _, _, _, _, _, h => h
  | m + 1, b, L, r, e, a, hl, hlen, hr, h => by
    have hb := hd b (by omega)
    have w0 := wd_pos hb hc
    have hr2 := hr (by omega)
    have hi : r / wd n c b < L.length := by
      rw [hlen]
      exact Nat.div_lt_of_lt_mul hr2
    have hx := getD_of hi
    have g1 := asc_ge a hx
    have g2 := asc_le a hl hx
    have h1 : r % wd n c b < wd n c b := Nat.mod_lt _ w0
    have h2 : L.getD (r / wd n c b) 0 - r / wd n c b ≤ b := by omega
    have h3 : wd n c b * (L.getD (r / wd n c b) 0 - r / wd n c b) ≤ wd n c b * b := Nat.mul_le_mul_left _ h2
    have h4 : wd n c b * (L.getD (r / wd n c b) 0 - r / wd n c b) + r % wd n c b < wd n c b * (b + 1) := by
      rw [Nat.mul_add, Nat.mul_one]
      omega
    have h5 : wd n c b * (b + 1) ≤ c := by
      have p : 0 < C (n - 1) b := C_pos _ _ (by omega)
      have p2 : b + 1 ≤ n * C (n - 1) b := Nat.le_trans (show b + 1 ≤ n * 1 by omega) (Nat.mul_le_mul_left n p)
      have := Nat.mul_le_mul_left (wd n c b) p2
      rw [wd_eq hb] at this
      exact this
    rw [List.range'_succ, fol_cons]
    refine fol_rest hd hc hdn m (b + 1) _ _ (by omega) (asc_erase a _) (fun x hx => hl x (List.mem_of_mem_eraseIdx hx)) ?_ (fun hlt => ?_) (by omega)
    · rw [List.length_eraseIdx, if_pos hi]
      omega
    · rw [← wd_step hb (hd (b + 1) hlt) (by omega)]
      exact h4
theorem path_rest {n d c k : Nat} (h : Std n d c) (hk : k < c) : (path n d c k).2 < c :=
  fol_rest h.dvd h.c0 h.dn d 0 _ _ (by omega) (asc_range' n 0) (fun x hx => mem_range0.mp hx) (by rw [List.length_range']; omega) (fun hd => by
    rw [Nat.sub_zero, wd_zero (h.dvd 0 hd)]
    exact hk) hk
theorem asc_unique {L M : List Nat} (a : Asc L) (b : Asc M) (p : L.Perm M) : L = M :=
  List.Perm.eq_of_pairwise (le := (· ≤ ·)) (fun a b _ _ h1 h2 => Nat.le_antisymm h1 h2) (a.imp fun z => Nat.le_of_lt z) (b.imp fun z => Nat.le_of_lt z) p
theorem std_of {n d : Nat} (h6 : n ≤ 60) (h1 : 1 ≤ n) (hd : d ≤ n) (q : Nat) (hq : 0 < q) : Std n d (leastL n d * q) := ⟨h6, h1, hd, Nat.mul_pos (leastL_pos hd) hq, ⟨q, rfl⟩⟩
/-! what stands outside a set, and the places in it -/
theorem below_at : ∀ {M : List Nat}, Asc M → ∀ {j s : Nat}, M[j]? = some s → (M.filter fun x => decide (x < s)).length = j
  | [], _, _, _, h => by cases h
  | y :: M, a, 0, s, h => by
    obtain rfl : y = s := Option.some.inj h
    rw [List.filter_cons_of_neg (by simp), List.filter_eq_nil_iff.mpr]
    · rfl
    · intro x hx
      have := (List.pairwise_cons.mp a).1 x hx
      simp
      omega
  | y :: M, a, j + 1, s, h => by
    have h1 : M[j]? = some s := h
    have h2 := (List.pairwise_cons.mp a).1 s (List.mem_of_getElem? h1)
    rw [List.filter_cons_of_pos (by simpa using h2)]
    exact congrArg (· + 1) (below_at (List.pairwise_cons.mp a).2 h1)
/-- L: the servers outside I, ascending -/
structure Compl (n : Nat) (I L : List Nat) : Prop where
  aI : Asc I
  aL : Asc L
  bI : ∀ x ∈ I, x < n
  mem : ∀ x, x ∈ L ↔ x < n ∧ x ∉ I
theorem Compl.count {n : Nat} {I L : List Nat} (h : Compl n I L) {i s : Nat} (e : L[i]? = some s) : (I.filter fun x => decide (x < s)).length + i = s := by
  have hs := (h.mem s).mp (List.mem_of_getElem? e)
  have p : ((I.filter fun x => decide (x < s)) ++ (L.filter fun x => decide (x < s))).Perm (List.range' 0 s) := by
    refine (List.perm_ext_iff_of_nodup ?_ (asc_nodup (asc_range' s 0))).mpr fun x => ?_
    · refine List.nodup_append.mpr ⟨(asc_nodup h.aI).filter _, (asc_nodup h.aL).filter _, fun x hx y hy e2 => ?_⟩
      subst e2
      exact ((h.mem x).mp (List.mem_filter.mp hy).1).2 (List.mem_filter.mp hx).1
    · rw [List.mem_append, List.mem_filter, List.mem_filter, mem_range0, h.mem]
      simp only [decide_eq_true_eq]
      constructor
      · rintro (⟨_, h⟩ | ⟨_, h⟩) <;> exact h
      · intro hx
        by_cases c : x ∈ I
        · exact .inl ⟨c, hx⟩
        · exact .inr ⟨⟨by omega, c⟩, hx⟩
  have l := p.length_eq
  rw [List.length_append, below_at h.aL e, List.length_range'] at l
  exact l
theorem Compl.start (n : Nat) : Compl n [] (List.range' 0 n) := ⟨List.Pairwise.nil, asc_range' n 0, fun x hx => absurd hx List.not_mem_nil, fun x => by rw [mem_range0]; simp⟩
theorem Compl.next {n : Nat} {I L I' : List Nat} (h : Compl n I L) {i s : Nat} (e : L[i]? = some s) (hp : I'.Perm (I ++ [s])) (ha : Asc I') : Compl n I' (L.eraseIdx i) := by
  have hs := (h.mem s).mp (List.mem_of_getElem? e)
  refine ⟨ha, asc_erase h.aL i, fun x hx => ?_, fun x => ?_⟩
  · rcases List.mem_append.mp (hp.mem_iff.mp hx) with hx | hx
    · exact h.bI x hx
    · rw [List.mem_singleton.mp hx]
      exact hs.1
  · constructor
    · intro hx
      have h1 := (h.mem x).mp (List.mem_of_mem_eraseIdx hx)
      refine ⟨h1.1, fun hx2 => ?_⟩
      rcases List.mem_append.mp (hp.mem_iff.mp hx2) with z | z
      · exact h1.2 z
      · rw [List.mem_singleton.mp z] at hx
        exact not_mem_erase (asc_nodup h.aL) e hx
    · rintro ⟨h1, h2⟩
      have h3 : x ∉ I := fun z => h2 (hp.mem_iff.mpr (List.mem_append_left _ z))
      have h4 : x ≠ s := fun z => h2 (hp.mem_iff.mpr (List.mem_append_right _ (by rw [z]; exact List.mem_singleton_self s)))
      obtain ⟨k, hk⟩ := List.getElem?_of_mem ((h.mem x).mpr ⟨h1, h3⟩)
      have hki : k ≠ i := fun z => by
        rw [z, e] at hk
        exact h4 (Option.some.inj hk).symm
      rcases Nat.lt_or_gt_of_ne hki with hlt | hgt
      · exact List.mem_of_getElem? (i := k) (by rw [List.getElem?_eraseIdx, if_pos hlt]; exact hk)
      · exact List.mem_of_getElem? (i := k - 1) (by rw [List.getElem?_eraseIdx, if_neg (by omega), show k - 1 + 1 = k by omega]; exact hk)
/-- the place of the new one -/
theorem Compl.index {n : Nat} {I L I' : List Nat} (h : Compl n I L) {i j s : Nat} (e : L[i]? = some s) (hp : I'.Perm (I ++ [s])) (ha : Asc I') (hj : I'[j]? = some s) : j + i = s := by
  have h1 := h.count e
  have h2 := below_at ha hj
  have h3 := (hp.filter fun x => decide (x < s)).length_eq
  rw [List.filter_append, List.length_append] at h3
  have h4 : (List.filter (fun x => decide (x < s)) [s]).length = 0 := by
    rw [List.filter_cons_of_neg (by simp)]
    rfl
  omega
theorem Compl.free {n : Nat} {I L : List Nat} (h : Compl n I L) : (List.range' 0 n).filter (fun x => !decide (x ∈ I)) = L := by
  have a1 : Asc ((List.range' 0 n).filter (fun x => !decide (x ∈ I))) := (asc_range' n 0).filter _
  refine List.Perm.eq_of_pairwise (le := (· ≤ ·)) (fun a b _ _ h1 h2 => Nat.le_antisymm h1 h2) (a1.imp fun z => Nat.le_of_lt z) (h.aL.imp fun z => Nat.le_of_lt z) ?_
  refine (List.perm_ext_iff_of_nodup (asc_nodup a1) (asc_nodup h.aL)).mpr fun x => ?_
  rw [List.mem_filter, mem_range0, h.mem]
  simp
end Ef
namespace Ef
/-! ### the sets of a size among ascending servers -/
def combs : List Nat → Nat → List (List Nat)
  | _, 0 => [[]]
  | [], _ + 1 => []
  | x :: r, k + 1 => (combs r k).map (x :: ·) ++ combs r (k + 1)
theorem combs_zero (l : List Nat) : combs l 0 = [[]] := by cases l <;> rfl
theorem combs_short : ∀ (l : List Nat) (k : Nat), l.length < k → combs l k = []
  | _, 0, h => absurd h (Nat.not_lt_zero _)
  | [], k + 1, _ => rfl
  | x :: r, k + 1, h => by
    have h2 : r.length < k := by
      simp only [List.length_cons] at h
      omega
    show (combs r k).map _ ++ combs r (k + 1) = []
    rw [combs_short r k h2, combs_short r (k + 1) (by omega)]
    rfl
theorem combs_good : ∀ (l : List Nat) (k : Nat), ∀ c ∈ combs l k, c.length = k ∧ c.Sublist l
  | l, 0, c, h => by
    rw [combs_zero] at h
    rw [List.mem_singleton.mp h]
    exact ⟨rfl, List.nil_sublist _⟩
  | [], k + 1, c, h => by cases h
  | x :: r, k + 1, c, h => by
    rcases List.mem_append.mp h with h | h
    · obtain ⟨d, hd, rfl⟩ := List.mem_map.mp h
      obtain ⟨h1, h2⟩ := combs_good r k d hd
      exact ⟨by rw [List.length_cons, h1], h2.cons_cons x⟩
    · obtain ⟨h1, h2⟩ := combs_good r (k + 1) c h
      exact ⟨h1, h2.cons x⟩
theorem combs_ne : ∀ (l : List Nat) (k : Nat), k ≤ l.length → combs l k ≠ []
  | l, 0, _ => by rw [combs_zero]; simp
  | [], k + 1, h => by simp at h
  | x :: r, k + 1, h => by
    have h2 : k ≤ r.length := by
      simp only [List.length_cons] at h
      omega
    show (combs r k).map _ ++ combs r (k + 1) ≠ []
    intro e
    have := (List.append_eq_nil_iff.mp e).1
    exact combs_ne r k h2 (List.map_eq_nil_iff.mp this)
theorem combs_mem : ∀ (l c : List Nat), c.Sublist l → c ∈ combs l c.length
  | l, [], _ => by
    show [] ∈ combs l 0
    rw [combs_zero]
    exact List.mem_singleton.mpr rfl
  | [], _ :: _, h => by cases h
  | x :: r, y :: c, h => by
    show y :: c ∈ (combs r c.length).map (x :: ·) ++ combs r (c.length + 1)
    cases h with
    | cons _ h => exact List.mem_append_right _ (combs_mem r (y :: c) h)
    | cons_cons _ h => exact List.mem_append_left _ (List.mem_map.mpr ⟨c, combs_mem r c h, rfl⟩)
/-- by the place of the first one -/
theorem combs_from (l : List Nat) (m : Nat) : ∀ (d s : Nat), l.length + 1 ≤ s + d + (m + 1) → s + d + (m + 1) ≤ l.length + 1 ∨ d = 0 → combs (l.drop s) (m + 1) = (List.range' s d).flatMap fun i => (combs (l.drop (i + 1)) m).map (l.getD i 0 :: ·)
  | 0, s, h1, _ => by
    rw [combs_short _ _ (by rw [List.length_drop]; omega)]
    rfl
  | d + 1, s, h1, h2 => by
    have hs : s < l.length := by omega
    rw [List.drop_eq_getElem_cons hs]
    show (combs (l.drop (s + 1)) m).map _ ++ combs (l.drop (s + 1)) (m + 1) = _
    rw [combs_from l m d (s + 1) (by omega) (by omega), List.range'_succ, List.flatMap_cons]
    congr 2
    funext c
    rw [List.getD_eq_getElem?_getD, List.getElem?_eq_getElem hs]
    rfl
/-- one server more, in the order of the law -/
def moreC (l : List Nat) (c : List Nat) : List (List Nat) := (l.filter fun y => decide (c = [] ∨ c.getLastD 0 < y)).map fun y => c ++ [y]
theorem last_cons (x : Nat) (c : List Nat) (h : c ≠ []) : (x :: c).getLastD 0 = c.getLastD 0 := by
  cases c with
  | nil => exact absurd rfl h
  | cons a r => rfl
theorem last_mem (c : List Nat) (h : c ≠ []) : c.getLastD 0 ∈ c := by
  cases c with
  | nil => exact absurd rfl h
  | cons a r =>
    have e : (a :: r).getLastD 0 = (a :: r).getLast h := by
      rw [List.getLastD_cons, List.getLast_eq_getLastD]
    rw [e]
    exact List.getLast_mem h
theorem flat_congr {α β : Type} {f g : α → List β} : ∀ {l : List α}, (∀ a ∈ l, f a = g a) → l.flatMap f = l.flatMap g
  | [], _ => rfl
  | a :: l, h => by rw [List.flatMap_cons, List.flatMap_cons, h a List.mem_cons_self, flat_congr fun b hb => h b (List.mem_cons_of_mem _ hb)]
theorem combs_more : ∀ (l : List Nat) (t : Nat), Asc l → (combs l t).flatMap (moreC l) = combs l (t + 1)
  | [], 0, _ => rfl
  | [], t + 1, _ => rfl
  | x :: r, 0, h => by
    obtain ⟨h1, h2⟩ := List.pairwise_cons.mp h
    have ih := combs_more r 0 h2
    rw [combs_zero] at ih ⊢
    rw [List.flatMap_cons, List.flatMap_nil, List.append_nil] at ih ⊢
    show _ = (combs r 0).map (x :: ·) ++ combs r 1
    rw [← ih, combs_zero]
    unfold moreC
    rw [List.filter_cons_of_pos (by simp)]
    rfl
  | x :: r, t + 1, h => by
    obtain ⟨h1, h2⟩ := List.pairwise_cons.mp h
    show ((combs r t).map (x :: ·) ++ combs r (t + 1)).flatMap (moreC (x :: r)) = (combs r (t + 1)).map (x :: ·) ++ combs r (t + 2)
    rw [List.flatMap_append]
    have e2 : (combs r (t + 1)).flatMap (moreC (x :: r)) = combs r (t + 2) := by
      rw [← combs_more r (t + 1) h2]
      refine flat_congr fun c hc => ?_
      obtain ⟨g1, g2⟩ := combs_good r (t + 1) c hc
      have ne : c ≠ [] := fun e => by rw [e] at g1; cases g1
      have hl := h1 _ (g2.subset (last_mem c ne))
      unfold moreC
      rw [List.filter_cons_of_neg]
      simp only [decide_eq_true_eq, not_or]
      exact ⟨ne, by omega⟩
    have e1 : ((combs r t).map (x :: ·)).flatMap (moreC (x :: r)) = (combs r (t + 1)).map (x :: ·) := by
      rw [← combs_more r t h2, List.flatMap_map, List.map_flatMap]
      refine flat_congr fun c hc => ?_
      obtain ⟨g1, g2⟩ := combs_good r t c hc
      unfold moreC
      rw [List.map_map]
      by_cases ne : c = []
      · subst ne
        rw [List.filter_cons_of_neg (by simp)]
        have e : (r.filter fun y => decide (([x] : List Nat) = [] ∨ ([x] : List Nat).getLastD 0 < y)) = r.filter fun y => decide (([] : List Nat) = [] ∨ ([] : List Nat).getLastD 0 < y) := by
          refine List.filter_congr fun y hy => ?_
          have := h1 y hy
          simp [this]
        rw [e]
        rfl
      · have hl := h1 _ (g2.subset (last_mem c ne))
        rw [List.filter_cons_of_neg (by
          simp only [decide_eq_true_eq, not_or]
          exact ⟨by simp, by rw [last_cons x c ne]; omega⟩)]
        have e : (r.filter fun y => decide (x :: c = [] ∨ (x :: c).getLastD 0 < y)) = r.filter fun y => decide (c = [] ∨ c.getLastD 0 < y) := by
          refine List.filter_congr fun y hy => ?_
          rw [last_cons x c ne]
          simp [ne]
        rw [e]
        rfl
    rw [e1, e2]
/-! the program's beginnings -/
def stepB (l : List Nat) (m : Nat) (b : List Nat × Nat) : List (List Nat × Nat) := (List.range' b.2 (l.length + 1 - m - b.2)).map fun i => (b.1 ++ [l.getD i 0], i + 1)
def begB (l : List Nat) (k : Nat) : Nat → List (List Nat × Nat)
  | 0 => [([], 0)]
  | t + 1 => (begB l k t).flatMap (stepB l (k - t))
def restB (l : List Nat) (m : Nat) (b : List Nat × Nat) : List (List Nat) := (combs (l.drop b.2) m).map (b.1 ++ ·)
theorem step_rest (l : List Nat) (m : Nat) (b : List Nat × Nat) : (stepB l (m + 1) b).flatMap (restB l m) = restB l (m + 1) b := by
  unfold stepB restB
  rw [combs_from l m (l.length + 1 - (m + 1) - b.2) b.2 (by omega) (by omega), List.flatMap_map, List.map_flatMap]
  refine flat_congr fun i _ => ?_
  rw [List.map_map]
  refine List.map_congr_left fun c _ => ?_
  show b.1 ++ [l.getD i 0] ++ c = b.1 ++ (l.getD i 0 :: c)
  rw [List.append_assoc]
  rfl
theorem flat_flat {α β γ : Type} (f : α → List β) (g : β → List γ) : ∀ l : List α, (l.flatMap f).flatMap g = l.flatMap fun a => (f a).flatMap g
  | [] => rfl
  | a :: l => by rw [List.flatMap_cons, List.flatMap_append, List.flatMap_cons, flat_flat f g l]
theorem beg_rest (l : List Nat) (k : Nat) : ∀ t, t ≤ k → (begB l k t).flatMap (restB l (k - t)) = combs l k
  | 0, _ => by
    show restB l k ([], 0) ++ [] = _
    unfold restB
    rw [List.append_nil]
    show (combs l k).map _ = _
    exact List.map_id _
  | t + 1, h => by
    rw [← beg_rest l k t (by omega)]
    show ((begB l k t).flatMap (stepB l (k - t))).flatMap _ = _
    rw [flat_flat]
    refine flat_congr fun b _ => ?_
    have e : k - t = (k - (t + 1)) + 1 := by omega
    rw [e]
    exact step_rest l _ b
theorem map_flat {α β : Type} (f : α → β) : ∀ l : List α, l.flatMap (fun a => [f a]) = l.map f
  | [] => rfl
  | a :: l => by rw [List.flatMap_cons, map_flat f l]; rfl
theorem beg_end (l : List Nat) (k : Nat) : (begB l k k).map (·.1) = combs l k := by
  rw [← beg_rest l k k (Nat.le_refl _), ← map_flat]
  refine flat_congr fun b _ => ?_
  unfold restB
  rw [Nat.sub_self, combs_zero]
  show _ = [b.1 ++ []]
  rw [List.append_nil]
theorem beg_fit (l : List Nat) (k : Nat) : ∀ t, t < k → ∀ b ∈ begB l k (t + 1), b.2 + (k - (t + 1)) ≤ l.length := fun t ht b hb => by
  obtain ⟨a, _, hb⟩ := List.mem_flatMap.mp hb
  obtain ⟨i, hi, rfl⟩ := List.mem_map.mp hb
  rw [List.mem_range'_1] at hi
  show i + 1 + _ ≤ _
  omega
theorem len_flat {α β : Type} (f : α → List β) : ∀ l : List α, (∀ a ∈ l, f a ≠ []) → l.length ≤ (l.flatMap f).length
  | [], _ => Nat.zero_le _
  | a :: l, h => by
    rw [List.flatMap_cons, List.length_append, List.length_cons]
    have h1 := len_flat f l fun b hb => h b (List.mem_cons_of_mem _ hb)
    have h2 := List.length_pos_iff.mpr (h a List.mem_cons_self)
    omega
theorem beg_len (l : List Nat) (k : Nat) : ∀ t, t ≤ k → (begB l k t).length ≤ (combs l k).length + 1
  | 0, _ => by show 1 ≤ _; omega
  | t + 1, h => by
    rw [← beg_rest l k (t + 1) h]
    refine Nat.le_succ_of_le (len_flat _ _ fun b hb => ?_)
    have := beg_fit l k t h b hb
    unfold restB
    intro e
    exact combs_ne _ _ (by rw [List.length_drop]; omega) (List.map_eq_nil_iff.mp e)
theorem beg_good (l : List Nat) (k : Nat) : ∀ t, ∀ b ∈ begB l k t, b.1.length = t ∧ b.2 ≤ l.length + 1
  | 0, b, hb => by
    rw [List.mem_singleton.mp hb]
    exact ⟨rfl, Nat.zero_le _⟩
  | t + 1, b, hb => by
    obtain ⟨a, ha, hb⟩ := List.mem_flatMap.mp hb
    obtain ⟨i, hi, rfl⟩ := List.mem_map.mp hb
    rw [List.mem_range'_1] at hi
    obtain ⟨h1, h2⟩ := beg_good l k t a ha
    exact ⟨by show (a.1 ++ _).length = _; rw [List.length_append, h1]; rfl, by show i + 1 ≤ _; omega⟩
theorem fm_le {α β : Type} (f : α → List β) : ∀ (l : List α) (i : Nat), ((l.take i).flatMap f).length ≤ (l.flatMap f).length
  | [], i => by rw [List.take_nil]; exact Nat.le_refl _
  | a :: l, 0 => Nat.zero_le _
  | a :: l, i + 1 => by
    rw [List.take_succ_cons, List.flatMap_cons, List.flatMap_cons, List.length_append, List.length_append]
    have := fm_le f l i
    omega
theorem fm_step {α β : Type} {f : α → List β} {l : List α} {i : Nat} {a : α} (h : l[i]? = some a) : (l.take (i + 1)).flatMap f = (l.take i).flatMap f ++ f a := by
  rw [List.take_add_one, h, List.flatMap_append]
  show _ ++ [a].flatMap f = _
  rw [List.flatMap_cons, List.flatMap_nil, List.append_nil]
theorem take_snoc {α : Type} {l : List α} {i : Nat} {a : α} (h : l[i]? = some a) : l.take (i + 1) = l.take i ++ [a] := by
  rw [List.take_add_one, h]
  rfl
theorem combsLen : ∀ (l : List Nat) (k : Nat), (combs l k).length = C l.length k
  | l, 0 => by rw [combs_zero]; cases l <;> rfl
  | [], k + 1 => rfl
  | x :: r, k + 1 => by
    show ((combs r k).map _ ++ combs r (k + 1)).length = C (r.length + 1) (k + 1)
    rw [List.length_append, List.length_map, combsLen r k, combsLen r (k + 1)]
    rfl
theorem combsNodup : ∀ (l : List Nat) (k : Nat), l.Nodup → (combs l k).Nodup
  | l, 0, _ => by
    rw [combs_zero]
    exact List.nodup_cons.mpr ⟨List.not_mem_nil, List.nodup_nil⟩
  | [], k + 1, _ => List.nodup_nil
  | x :: r, k + 1, h => by
    obtain ⟨h1, h2⟩ := List.nodup_cons.mp h
    refine List.nodup_append.mpr ⟨?_, combsNodup r (k + 1) h2, fun c hc d hd e => ?_⟩
    · refine List.Pairwise.map _ (fun a b hab z => hab ?_) (combsNodup r k h2)
      exact (List.cons.inj z).2
    · obtain ⟨c', _, rfl⟩ := List.mem_map.mp hc
      obtain ⟨_, g⟩ := combs_good r (k + 1) d hd
      rw [← e] at g
      exact h1 (g.subset List.mem_cons_self)
theorem ascSub : ∀ {b a : List Nat}, Asc a → Asc b → (∀ x ∈ a, x ∈ b) → a.Sublist b
  | [], [], _, _, _ => List.Sublist.slnil
  | [], x :: a, _, _, h => absurd (h x List.mem_cons_self) List.not_mem_nil
  | y :: b, [], _, _, _ => List.nil_sublist _
  | y :: b, x :: a, ha, hb, h => by
    obtain ⟨a1, a2⟩ := List.pairwise_cons.mp ha
    obtain ⟨b1, b2⟩ := List.pairwise_cons.mp hb
    by_cases e : x = y
    · subst e
      refine (ascSub a2 b2 fun z hz => ?_).cons_cons x
      rcases List.mem_cons.mp (h z (List.mem_cons_of_mem _ hz)) with rfl | h2
      · have := a1 z hz
        omega
      · exact h2
    · refine (ascSub (a := x :: a) ha b2 fun z hz => ?_).cons y
      rcases List.mem_cons.mp (h z hz) with rfl | h2
      · rcases List.mem_cons.mp hz with rfl | hz
        · exact absurd rfl e
        · have h3 := a1 z hz
          rcases List.mem_cons.mp (h x List.mem_cons_self) with h4 | h4
          · exact absurd h4 e
          · have := b1 x h4
            omega
      · exact h2
/-- all (set, server) with the server outside -/
def without (n x : Nat) : List Nat := (List.range n).filter fun y => !decide (y = x)
def allE (n sz : Nat) : List (List Nat × Nat) := (List.range n).flatMap fun x => (combs (without n x) sz).map fun c => (c, x)
theorem without_len {n x : Nat} (h : x < n) : (without n x).length = n - 1 := by
  unfold without
  have hp : ∀ l : List Nat, (l.filter fun y => !decide (y = x)).length + (l.filter fun y => decide (y = x)).length = l.length := by
    intro l
    induction l with
    | nil => rfl
    | cons a l ih =>
      by_cases e : a = x
      · rw [List.filter_cons_of_neg (by simpa using e), List.filter_cons_of_pos (by simpa using e), List.length_cons, List.length_cons]
        omega
      · rw [List.filter_cons_of_pos (by simpa using e), List.filter_cons_of_neg (by simpa using e), List.length_cons, List.length_cons]
        omega
  replace hp := hp (List.range n)
  rw [List.length_range] at hp
  have h1 : ((List.range n).filter fun y => decide (y = x)).length = 1 := by
    rw [← List.countP_eq_length_filter]
    have e : (List.range n).countP (fun y => decide (y = x)) = (List.range n).count x := by
      unfold List.count
      refine List.countP_congr fun y _ => ?_
      simp
    rw [e]
    exact List.Nodup.count List.nodup_range |>.trans (if_pos (List.mem_range.mpr h))
  omega
theorem without_asc (n x : Nat) : Asc (without n x) := List.Pairwise.filter _ (by
  have := List.pairwise_lt_range (n := n)
  exact this)
theorem flat_const {α β : Type} (f : α → List β) (k : Nat) : ∀ l : List α, (∀ a ∈ l, (f a).length = k) → (l.flatMap f).length = l.length * k
  | [], _ => by simp
  | a :: l, h => by
    rw [List.flatMap_cons, List.length_append, h a List.mem_cons_self, flat_const f k l fun b hb => h b (List.mem_cons_of_mem _ hb), List.length_cons, Nat.succ_mul]
    omega
theorem allE_len (n sz : Nat) : (allE n sz).length = n * C (n - 1) sz := by
  unfold allE
  rw [flat_const _ (C (n - 1) sz) _ fun x hx => ?_, List.length_range]
  rw [List.length_map, combsLen, without_len (List.mem_range.mp hx)]
theorem allE_mem {n sz x : Nat} {c : List Nat} (hx : x < n) (hl : c.length = sz) (ha : Asc c) (hc : ∀ y ∈ c, y < n ∧ y ≠ x) : (c, x) ∈ allE n sz := by
  refine List.mem_flatMap.mpr ⟨x, List.mem_range.mpr hx, List.mem_map.mpr ⟨c, ?_, rfl⟩⟩
  have := combs_mem (without n x) c (ascSub ha (without_asc n x) fun y hy => List.mem_filter.mpr ⟨List.mem_range.mpr (hc y hy).1, by simpa using (hc y hy).2⟩)
  rw [hl] at this
  exact this
theorem subG_len {α : Type} [DecidableEq α] : ∀ {ks ns : List α}, ks.Nodup → (∀ k ∈ ks, k ∈ ns) → ks.length ≤ ns.length
  | [], _, _, _ => Nat.zero_le _
  | k :: r, ns, h, hs => by
    have hk := hs k List.mem_cons_self
    have h1 := subG_len (ks := r) (ns := ns.erase k) (List.nodup_cons.mp h).2 fun x hx => (List.mem_erase_of_ne (fun e : x = k => (List.nodup_cons.mp h).1 (e ▸ hx))).mpr (hs x (List.mem_cons_of_mem _ hx))
    have h2 := List.length_erase_of_mem hk
    have h3 := List.length_pos_of_mem hk
    show r.length + 1 ≤ ns.length
    omega
/-! sorted -/
def srt (l : List Nat) : List Nat := l.mergeSort fun a b => decide (a ≤ b)
theorem srt_perm (l : List Nat) : (srt l).Perm l := List.mergeSort_perm l _
theorem srt_le (l : List Nat) : (srt l).Pairwise (· ≤ ·) := (List.pairwise_mergeSort (le := fun a b : Nat => decide (a ≤ b)) (fun a b c h1 h2 => by simp at *; omega) (fun a b => by simp; omega) l).imp fun h => of_decide_eq_true h
theorem srt_asc {l : List Nat} (h : l.Nodup) : Asc (srt l) := ((srt_le l).and ((srt_perm l).nodup_iff.mpr h)).imp fun ⟨a, b⟩ => by omega
theorem srt_of {l m : List Nat} (p : m.Perm l) (h : m.Pairwise (· ≤ ·)) : m = srt l :=
  List.Perm.eq_of_pairwise (le := fun a b : Nat => a ≤ b) (fun a b _ _ h1 h2 => Nat.le_antisymm h1 h2) h (srt_le l) (p.trans (srt_perm l).symm)
end Ef
namespace Ef
/-! ### the least numbers once more: common multiples of n, n - 1, .. -/
def leastP (n : Nat) : Nat → Nat
  | 0 => 1
  | d + 1 => stepL (leastP n d) (n - d)
theorem parts_ok : rowsOk (fun n d a => Nat.beq (leastP n d) a) 60 1 row0 = true := by decide +kernel
theorem leastP_eq {n d : Nat} (h1 : 1 ≤ n) (h6 : n ≤ 60) (hd : d ≤ n) : leastP n d = leastL n d :=
  Nat.eq_of_beq_eq_true (rows_all 60 1 row0 row0_is (by decide) parts_ok n h1 (by omega) h6 d hd)
theorem stepL_lcm (a b : Nat) : stepL a b = Nat.lcm a b := by
  unfold stepL Nat.lcm
  exact Nat.div_mul_right_comm (Nat.gcd_dvd_left a b) b
theorem stepL_dvd (a b c : Nat) : stepL a b ∣ c ↔ a ∣ c ∧ b ∣ c := by
  rw [stepL_lcm]
  exact ⟨fun h => ⟨Nat.dvd_trans (Nat.dvd_lcm_left a b) h, Nat.dvd_trans (Nat.dvd_lcm_right a b) h⟩, fun h => Nat.lcm_dvd h.1 h.2⟩
theorem leastP_dvd (n c : Nat) : ∀ d, leastP n d ∣ c ↔ ∀ i, i < d → (n - i) ∣ c
  | 0 => ⟨fun _ i h => absurd h (Nat.not_lt_zero i), fun _ => Nat.one_dvd c⟩
  | d + 1 => by
    show stepL (leastP n d) (n - d) ∣ c ↔ _
    rw [stepL_dvd, leastP_dvd n c d]
    constructor
    · intro h i hi
      by_cases e : i = d
      · rw [e]
        exact h.2
      · exact h.1 i (by omega)
    · intro h
      exact ⟨fun i hi => h i (by omega), h d (by omega)⟩
/-- a number is a multiple of the least one exactly if n, n - 1, .. divide it -/
theorem least_parts {n d : Nat} (h1 : 1 ≤ n) (h6 : n ≤ 60) (hd : d ≤ n) (c : Nat) : leastL n d ∣ c ↔ ∀ i, i < d → (n - i) ∣ c := by
  rw [← leastP_eq h1 h6 hd]
  exact leastP_dvd n c d
def partsV (n d : Nat) : List Nat := (List.range d).map fun i => n - i
theorem parts_at {n d i : Nat} (h : i < d) : (partsV n d)[i]? = some (n - i) := by
  unfold partsV
  rw [List.getElem?_map, List.getElem?_range h]
  rfl
theorem parts_len (n d : Nat) : (partsV n d).length = d := by
  unfold partsV
  rw [List.length_map, List.length_range]
def wdsL (n c d : Nat) : List Nat := (List.range d).map (wd n c)
theorem wds_step (n c d : Nat) : wdsL n c (d + 1) = wdsL n c d ++ [wd n c d] := by
  unfold wdsL
  rw [List.range_succ, List.map_append]
  rfl
theorem wds_len (n c d : Nat) : (wdsL n c d).length = d := by
  unfold wdsL
  rw [List.length_map, List.length_range]
/-- one step of the edges -/
theorem edge_step {n s : Nat} (h : s < n) : n * C (n - 1) s * (n - 1 - s) / (s + 1) = n * C (n - 1) (s + 1) := by
  rw [Nat.mul_assoc, ← C_step (n - 1) s (by omega), ← Nat.mul_assoc, Nat.mul_div_cancel _ (Nat.succ_pos s)]
end Ef
namespace Ef
/-! ### from a place back to a number -/
/-- what is left of the servers -/
def folL (n c : Nat) : List Nat → List Nat → Nat → List Nat
  | [], L, _ => L
  | s :: ss, L, r => folL n c ss (L.eraseIdx (r / wd n c s)) (wd n c s * (L.getD (r / wd n c s) 0 - r / wd n c s) + r % wd n c s)
theorem fol_snoc (n c : Nat) (s : Nat) : ∀ (ss L : List Nat) (r : Nat), fol n c (ss ++ [s]) L r =
    ((fol n c ss L r).1 ++ [(folL n c ss L r).getD ((fol n c ss L r).2 / wd n c s) 0],
      wd n c s * ((folL n c ss L r).getD ((fol n c ss L r).2 / wd n c s) 0 - (fol n c ss L r).2 / wd n c s) + (fol n c ss L r).2 % wd n c s)
  | [], L, r => rfl
  | t :: ss, L, r => by
    rw [List.cons_append, fol_cons, fol_snoc n c s ss, fol_cons]
    rfl
theorem folL_snoc (n c : Nat) (s : Nat) : ∀ (ss L : List Nat) (r : Nat), folL n c (ss ++ [s]) L r = (folL n c ss L r).eraseIdx ((fol n c ss L r).2 / wd n c s)
  | [], L, r => rfl
  | t :: ss, L, r => by
    rw [List.cons_append]
    show folL n c (ss ++ [s]) _ _ = _
    rw [folL_snoc n c s ss]
    rfl
theorem wd_back {n c b : Nat} (h : n * C (n - 1) b ∣ c) (hb : b < n) : c / C n (b + 1) = wd n c b * (b + 1) := by
  have e := wd_eq h
  obtain ⟨m, rfl⟩ : ∃ m, n = m + 1 := ⟨n - 1, by omega⟩
  have a := C_absorb m b
  rw [Nat.add_sub_cancel] at e
  rw [← a] at e
  have p := C_pos (m + 1) (b + 1) (by omega)
  generalize wd (m + 1) c b = w at e ⊢
  have e2 : c = w * (b + 1) * C (m + 1) (b + 1) := by
    rw [← e, Nat.mul_comm (C (m + 1) (b + 1)), Nat.mul_assoc]
  rw [e2, Nat.mul_div_cancel _ p]
theorem wd_out {n c b : Nat} (h : n * C (n - 1) b ∣ c) (hb : b < n) : wd n c b * (n - b) * C n b = c := by
  have e := wd_eq h
  obtain ⟨m, rfl⟩ : ∃ m, n = m + 1 := ⟨n - 1, by omega⟩
  have a := C_absorb m b
  have s := C_step (m + 1) b (by omega)
  rw [Nat.add_sub_cancel] at e
  rw [Nat.mul_assoc, Nat.mul_comm (m + 1 - b), ← s, a]
  exact e
theorem erasePerm : ∀ (l : List Nat) (k x : Nat), l[k]? = some x → (x :: l.eraseIdx k).Perm l
  | [], _, _, h => by cases h
  | a :: r, 0, x, h => by
    obtain rfl : a = x := Option.some.inj h
    exact List.Perm.refl _
  | a :: r, k + 1, x, h => (List.Perm.swap a x _).trans ((erasePerm r k x h).cons a)
theorem range'_end (b : Nat) : List.range' 0 (b + 1) = List.range' 0 b ++ [b] := by
  rw [← List.range_eq_range', ← List.range_eq_range', List.range_succ]
theorem rev_range (b : Nat) : (List.range' 0 (b + 1)).reverse = b :: (List.range' 0 b).reverse := by
  rw [range'_end, List.reverse_append]
  rfl
/-- one step back -/
structure Place (n c b : Nat) (ms : List Nat) (r : Nat) : Prop where
  asc : Asc ms
  lt : ∀ x ∈ ms, x < n
  len : ms.length = b
  rest : r < c / C n b
theorem Place.ix {n c b r : Nat} {ms : List Nat} (h : Place n c (b + 1) ms r) (hd : n * C (n - 1) b ∣ c) (hb : b < n) : r / wd n c b < ms.length := by
  have h1 := h.rest
  rw [wd_back hd hb] at h1
  rw [h.len]
  exact Nat.div_lt_of_lt_mul h1
theorem Place.prev {n c b r : Nat} {ms : List Nat} (h : Place n c (b + 1) ms r) (hd : ∀ k, k ≤ b → n * C (n - 1) k ∣ c) (hb : b < n) (hc : 0 < c) :
    Place n c b (ms.eraseIdx (r / wd n c b)) (wd n c b * (ms.getD (r / wd n c b) 0 - r / wd n c b) + r % wd n c b) := by
  have hi := h.ix (hd b (Nat.le_refl _)) hb
  have w0 := wd_pos (hd b (Nat.le_refl _)) hc
  have hx := getD_of hi
  have g1 := asc_ge h.asc hx
  have g2 := asc_le h.asc h.lt hx
  have hl := h.len
  refine ⟨asc_erase h.asc _, fun x hx => h.lt x (List.mem_of_mem_eraseIdx hx), ?_, ?_⟩
  · rw [List.length_eraseIdx, if_pos hi, hl]
    rfl
  · have h1 : r % wd n c b < wd n c b := Nat.mod_lt _ w0
    have h2 : ms.getD (r / wd n c b) 0 - r / wd n c b + 1 ≤ n - b := by omega
    have h3 : wd n c b * (ms.getD (r / wd n c b) 0 - r / wd n c b + 1) ≤ wd n c b * (n - b) := Nat.mul_le_mul_left _ h2
    have h4 : c / C n b = wd n c b * (n - b) := by
      have e := wd_out (hd b (Nat.le_refl _)) hb
      have p := C_pos n b (by omega)
      conv => lhs; rw [← e]
      exact Nat.mul_div_cancel _ p
    rw [h4]
    rw [Nat.mul_add, Nat.mul_one] at h3
    omega
theorem back_ok {n c : Nat} (hc : 0 < c) : ∀ (b : Nat) (ms : List Nat) (r : Nat), b ≤ n → (∀ k, k < b → n * C (n - 1) k ∣ c) → Place n c b ms r → FolOk n c (List.range' 0 b).reverse ms r
  | 0, _, _, _, _, _ => trivial
  | b + 1, ms, r, hb, hd, h => by
    rw [rev_range]
    have hi := h.ix (hd b (by omega)) (by omega)
    exact ⟨wd_pos (hd b (by omega)) hc, hi, asc_ge h.asc (getD_of hi), back_ok hc b _ _ (by omega) (fun k hk => hd k (by omega)) (h.prev (fun k hk => hd k (by omega)) (by omega) hc)⟩
theorem Std.less {n d c : Nat} (h : Std n (d + 1) c) : Std n d c := by
  have hd := h.dn
  exact ⟨h.n60, h.n1, by omega, h.c0, Nat.dvd_trans (stepL_left _ _ (leastL_pos (by omega))) h.dv⟩
/-- the number of the list that has this place -/
def back (n c : Nat) (ms : List Nat) (r : Nat) : Nat := (fol n c (List.range' 0 ms.length).reverse ms r).2
theorem back_fwd {n c : Nat} (hc : 0 < c) : ∀ (b : Nat) (ms : List Nat) (r : Nat), b ≤ n → (∀ k, k < b → n * C (n - 1) k ∣ c) → Place n c b ms r →
    (fol n c (List.range' 0 b).reverse ms r).2 < c ∧
    (fol n c (List.range' 0 b) (List.range' 0 n) (fol n c (List.range' 0 b).reverse ms r).2).1.Perm ms ∧
    (fol n c (List.range' 0 b) (List.range' 0 n) (fol n c (List.range' 0 b).reverse ms r).2).2 = r ∧
    Compl n ms (folL n c (List.range' 0 b) (List.range' 0 n) (fol n c (List.range' 0 b).reverse ms r).2)
  | 0, ms, r, _, _, h => by
    have e : ms = [] := List.length_eq_zero_iff.mp h.len
    have hr := h.rest
    rw [C_zero, Nat.div_one] at hr
    subst e
    exact ⟨hr, List.Perm.refl _, rfl, Compl.start n⟩
  | b + 1, ms, r, hb, hd, h => by
    have hi := h.ix (hd b (by omega)) (by omega)
    have w0 := wd_pos (hd b (by omega)) hc
    have hx := getD_of hi
    have g1 := asc_ge h.asc hx
    have pv := h.prev (fun k hk => hd k (by omega)) (by omega) hc
    obtain ⟨i1, i2, i3, i4⟩ := back_fwd hc b _ _ (by omega) (fun k hk => hd k (by omega)) pv
    rw [rev_range, fol_cons]
    show (fol n c (List.range' 0 b).reverse (ms.eraseIdx (r / wd n c b)) (wd n c b * (ms.getD (r / wd n c b) 0 - r / wd n c b) + r % wd n c b)).2 < c ∧ _
    generalize (fol n c (List.range' 0 b).reverse (ms.eraseIdx (r / wd n c b)) (wd n c b * (ms.getD (r / wd n c b) 0 - r / wd n c b) + r % wd n c b)).2 = k at i1 i2 i3 i4 ⊢
    show k < c ∧ (fol n c (List.range' 0 (b + 1)) (List.range' 0 n) k).1.Perm ms ∧ (fol n c (List.range' 0 (b + 1)) (List.range' 0 n) k).2 = r ∧ Compl n ms (folL n c (List.range' 0 (b + 1)) (List.range' 0 n) k)
    rw [range'_end, fol_snoc, folL_snoc, i3]
    have hm : r % wd n c b < wd n c b := Nat.mod_lt _ w0
    have e1 : (wd n c b * (ms.getD (r / wd n c b) 0 - r / wd n c b) + r % wd n c b) / wd n c b = ms.getD (r / wd n c b) 0 - r / wd n c b := by
      rw [Nat.mul_add_div w0, Nat.div_eq_of_lt hm, Nat.add_zero]
    have e2 : (wd n c b * (ms.getD (r / wd n c b) 0 - r / wd n c b) + r % wd n c b) % wd n c b = r % wd n c b := by
      rw [Nat.mul_add_mod, Nat.mod_mod]
    rw [e1, e2]
    generalize folL n c (List.range' 0 b) (List.range' 0 n) k = L at i4
    have hdm := Nat.div_add_mod r (wd n c b)
    generalize r / wd n c b = i at hi hx g1 pv i1 i2 i3 i4 hdm e1 e2 ⊢
    generalize ms.getD i 0 = x at hx g1 pv i1 i2 i3 i4 e1 e2 ⊢
    have pm : ms.Perm (ms.eraseIdx i ++ [x]) := ((List.perm_append_singleton x _).trans (erasePerm ms i x hx)).symm
    have hmem : x ∈ L := (i4.mem _).mpr ⟨h.lt _ (List.mem_of_getElem? hx), not_mem_erase (asc_nodup h.asc) hx⟩
    obtain ⟨j, hj⟩ := List.getElem?_of_mem hmem
    have hjx := i4.index hj pm h.asc hx
    obtain rfl : x - i = j := by omega
    have ex : L.getD (x - i) 0 = x := by
      have := getD_of (L := L) (i := x - i) (List.getElem?_eq_some_iff.mp hj).1
      rw [hj] at this
      exact (Option.some.inj this).symm
    rw [ex]
    refine ⟨i1, (i2.append_right _).trans pm.symm, ?_, i4.next hj pm h.asc⟩
    show wd n c b * (x - (x - i)) + r % wd n c b = r
    rw [show x - (x - i) = i by omega]
    exact hdm
end Ef
namespace Ef
/-! ### counts by formula -/
def sumTo (g : Nat → Nat) : Nat → Nat
  | 0 => 0
  | n + 1 => sumTo g n + g n
theorem sumTo_congr {g h : Nat → Nat} : ∀ {n : Nat}, (∀ i, i < n → g i = h i) → sumTo g n = sumTo h n
  | 0, _ => rfl
  | n + 1, e => by
    show sumTo g n + g n = sumTo h n + h n
    rw [sumTo_congr (n := n) fun i hi => e i (by omega), e n (by omega)]
theorem sumTo_add (g h : Nat → Nat) : ∀ n : Nat, sumTo (fun i => g i + h i) n = sumTo g n + sumTo h n
  | 0 => rfl
  | n + 1 => by
    show sumTo _ n + (g n + h n) = sumTo g n + g n + (sumTo h n + h n)
    rw [sumTo_add g h n]
    omega
theorem sumTo_mul (k : Nat) (g : Nat → Nat) : ∀ n : Nat, sumTo (fun i => k * g i) n = k * sumTo g n
  | 0 => rfl
  | n + 1 => by
    show sumTo _ n + k * g n = k * (sumTo g n + g n)
    rw [sumTo_mul k g n, Nat.mul_add]
theorem sumTo_zero {g : Nat → Nat} : ∀ {n : Nat}, (∀ i, i < n → g i = 0) → sumTo g n = 0
  | 0, _ => rfl
  | n + 1, e => by
    show sumTo g n + g n = 0
    rw [sumTo_zero (n := n) fun i hi => e i (by omega), e n (by omega)]
theorem sumTo_shift (g : Nat → Nat) : ∀ n : Nat, sumTo g (n + 1) = g 0 + sumTo (fun i => g (i + 1)) n
  | 0 => by
    show 0 + g 0 = g 0 + 0
    omega
  | n + 1 => by
    show sumTo g (n + 1) + g (n + 1) = g 0 + (sumTo (fun i => g (i + 1)) n + g (n + 1))
    rw [sumTo_shift g n]
    omega
theorem sumTo_cut (g : Nat → Nat) (a : Nat) : ∀ b : Nat, sumTo g (a + b) = sumTo g a + sumTo (fun i => g (a + i)) b
  | 0 => rfl
  | b + 1 => by
    show sumTo g (a + b) + g (a + b) = sumTo g a + (sumTo (fun i => g (a + i)) b + g (a + b))
    rw [sumTo_cut g a b]
    omega
theorem edge_alt {n i : Nat} (h : i < n) : C n i * (n - i) = n * C (n - 1) i := by
  obtain ⟨m, rfl⟩ : ∃ m, n = m + 1 := ⟨n - 1, by omega⟩
  have s := C_step (m + 1) i (by omega)
  have a := C_absorb m i
  rw [← s, a, Nat.add_sub_cancel]
theorem edge_alt2 {n i : Nat} (h : i < n) : C n (i + 1) * (i + 1) = n * C (n - 1) i := by
  obtain ⟨m, rfl⟩ : ∃ m, n = m + 1 := ⟨n - 1, by omega⟩
  rw [C_absorb m i, Nat.add_sub_cancel]
/-- the harmonic triangle -/
theorem leib {n i T : Nat} (hi : i < n) (h1 : (n + 1) * C n i ∣ T) (h2 : (n + 1) * C n (i + 1) ∣ T) : n * C (n - 1) i ∣ T ∧ wd n T i = wd (n + 1) T i + wd (n + 1) T (i + 1) := by
  have e1 : wd (n + 1) T i * ((n + 1) * C n i) = T := Nat.div_mul_cancel h1
  have e2 : wd (n + 1) T (i + 1) * ((n + 1) * C n (i + 1)) = T := Nat.div_mul_cancel h2
  have a1 := edge_alt hi
  have a2 := edge_alt2 hi
  have key : (wd (n + 1) T i + wd (n + 1) T (i + 1)) * (n * C (n - 1) i) = T := by
    refine Nat.eq_of_mul_eq_mul_left (show 0 < n + 1 by omega) ?_
    generalize wd (n + 1) T i = a at e1
    generalize wd (n + 1) T (i + 1) = b at e2
    have x1 : (n + 1) * (a * (n * C (n - 1) i)) = T * (n - i) := by
      rw [← a1, ← e1]
      simp only [Nat.mul_assoc, Nat.mul_comm, Nat.mul_left_comm]
    have x2 : (n + 1) * (b * (n * C (n - 1) i)) = T * (i + 1) := by
      rw [← a2, ← e2]
      simp only [Nat.mul_assoc, Nat.mul_comm, Nat.mul_left_comm]
    have x3 : (n + 1) * ((a + b) * (n * C (n - 1) i)) = (n + 1) * (a * (n * C (n - 1) i)) + (n + 1) * (b * (n * C (n - 1) i)) := by
      rw [Nat.add_mul a b, Nat.mul_add (n + 1)]
    rw [x3, x1, x2, ← Nat.mul_add T, Nat.mul_comm T]
    congr 1
    omega
  have p : 0 < n * C (n - 1) i := edge_pos hi
  refine ⟨⟨_, by rw [Nat.mul_comm]; exact key.symm⟩, ?_⟩
  show T / (n * C (n - 1) i) = _
  conv => lhs; rw [← key]
  exact Nat.mul_div_cancel _ p
theorem sum_leib {T u f : Nat} (hf : f < u) : ∀ m : Nat, (∀ i, i ≤ m + f → (u + m) * C (u + m - 1) i ∣ T) → (u * C (u - 1) f ∣ T) ∧ sumTo (fun j => C m j * wd (u + m) T (j + f)) (m + 1) = wd u T f
  | 0, h => by
    have h0 := h f (by omega)
    refine ⟨h0, ?_⟩
    show 0 + C 0 0 * wd (u + 0) T (0 + f) = wd u T f
    rw [Nat.zero_add, Nat.zero_add, C_zero, Nat.one_mul, Nat.add_zero]
  | m + 1, h => by
    have hd : ∀ i, i ≤ m + f → (u + m) * C (u + m - 1) i ∣ T ∧ wd (u + m) T i = wd (u + m + 1) T i + wd (u + m + 1) T (i + 1) := fun i hi => by
      have a := h i (by omega)
      have b := h (i + 1) (by omega)
      rw [show u + (m + 1) = u + m + 1 from rfl, Nat.add_sub_cancel] at a b
      exact leib (show i < u + m by omega) a b
    obtain ⟨r1, r2⟩ := sum_leib hf m fun i hi => (hd i hi).1
    refine ⟨r1, ?_⟩
    rw [← r2]
    -- the right side split by the triangle
    have e1 : sumTo (fun j => C m j * wd (u + m) T (j + f)) (m + 1) = sumTo (fun j => C m j * wd (u + m + 1) T (j + f)) (m + 1) + sumTo (fun j => C m j * wd (u + m + 1) T (j + 1 + f)) (m + 1) := by
      rw [← sumTo_add]
      refine sumTo_congr fun j hj => ?_
      rw [(hd (j + f) (by omega)).2, Nat.mul_add, show j + f + 1 = j + 1 + f by omega]
    -- the left side split by Pascal
    have e2 : sumTo (fun j => C (m + 1) j * wd (u + (m + 1)) T (j + f)) (m + 1 + 1) = sumTo (fun j => C m j * wd (u + m + 1) T (j + f)) (m + 1 + 1) + sumTo (fun j => C m j * wd (u + m + 1) T (j + 1 + f)) (m + 1) := by
      rw [sumTo_shift, sumTo_shift (fun j => C m j * wd (u + m + 1) T (j + f)), Nat.add_assoc, ← sumTo_add, C_zero, C_zero]
      congr 1
      refine sumTo_congr fun j hj => ?_
      show C (m + 1) (j + 1) * wd (u + m + 1) T (j + 1 + f) = C m (j + 1) * wd (u + m + 1) T (j + 1 + f) + C m j * wd (u + m + 1) T (j + 1 + f)
      rw [C_ss, Nat.add_mul, Nat.add_comm]
    have e3 : sumTo (fun j => C m j * wd (u + m + 1) T (j + f)) (m + 1 + 1) = sumTo (fun j => C m j * wd (u + m + 1) T (j + f)) (m + 1) := by
      show sumTo _ (m + 1) + C m (m + 1) * _ = _
      rw [C_big m (m + 1) (by omega), Nat.zero_mul, Nat.add_zero]
    rw [e2, e3, e1]
/-- in how many lists the live server number f + 1 stands at index i -/
def fndAt (n T u f i : Nat) : Nat := if i < f ∨ n - u + f < i then 0 else C u f * C (n - u) (i - f) * (u - f) * wd n T i
theorem fnd_sum {n T u f : Nat} (hu : u ≤ n) (hf : f < u) (h : ∀ i, i ≤ n - u + f → n * C (n - 1) i ∣ T) : sumTo (fndAt n T u f) n = T := by
  have en : n = u + (n - u) := by omega
  obtain ⟨r1, r2⟩ := sum_leib (T := T) hf (n - u) fun i hi => by
    rw [← en]
    exact h i hi
  rw [← en] at r2
  have e1 : sumTo (fndAt n T u f) n = sumTo (fndAt n T u f) f + sumTo (fun i => fndAt n T u f (f + i)) (n - f) := by
    have := sumTo_cut (fndAt n T u f) f (n - f)
    rw [show f + (n - f) = n by omega] at this
    exact this
  have e2 : sumTo (fndAt n T u f) f = 0 := sumTo_zero fun i hi => if_pos (.inl hi)
  have e3 : sumTo (fun i => fndAt n T u f (f + i)) (n - f) = sumTo (fun i => fndAt n T u f (f + i)) (n - u + 1) + sumTo (fun i => fndAt n T u f (f + (n - u + 1 + i))) (n - f - (n - u + 1)) := by
    have := sumTo_cut (fun i => fndAt n T u f (f + i)) (n - u + 1) (n - f - (n - u + 1))
    rw [show n - u + 1 + (n - f - (n - u + 1)) = n - f by omega] at this
    exact this
  have e4 : sumTo (fun i => fndAt n T u f (f + (n - u + 1 + i))) (n - f - (n - u + 1)) = 0 := sumTo_zero fun i hi => if_pos (.inr (by omega))
  have e5 : sumTo (fun i => fndAt n T u f (f + i)) (n - u + 1) = (C u f * (u - f)) * sumTo (fun j => C (n - u) j * wd n T (j + f)) (n - u + 1) := by
    rw [← sumTo_mul]
    refine sumTo_congr fun i hi => ?_
    show fndAt n T u f (f + i) = _
    unfold fndAt
    rw [if_neg (by omega), show f + i - f = i by omega, show f + i = i + f by omega]
    simp only [Nat.mul_assoc, Nat.mul_comm, Nat.mul_left_comm]
  rw [e1, e2, e3, e4, e5, r2, Nat.zero_add, Nat.add_zero, edge_alt hf, Nat.mul_comm]
  exact wd_eq r1
end Ef
namespace Ef
/-! ### the numbers of the lists with a beginning -/
/-- what 'numbers_with' keeps on its way: the numbers from lo to hi - 1 have the beginning, the rest of number k is k + mv, L is left -/
structure Wst where
  lo : Int
  hi : Int
  mv : Int
  L : List Nat
def wStep (n c b s : Nat) (x : Wst) : Wst :=
  ⟨max x.lo ((wd n c b : Int) * (x.L.idxOf s : Int) - x.mv), min x.hi ((wd n c b : Int) * ((x.L.idxOf s : Int) + 1) - x.mv), x.mv + (wd n c b : Int) * ((s : Int) - (x.L.idxOf s : Int) - (x.L.idxOf s : Int)), x.L.eraseIdx (x.L.idxOf s)⟩
/-- from level b on -/
def wRun (n c : Nat) : Nat → List Nat → Wst → Option Wst
  | _, [], x => some x
  | b, s :: r, x => if s ∈ x.L then (if (wStep n c b s x).hi ≤ (wStep n c b s x).lo then none else wRun n c (b + 1) r (wStep n c b s x)) else none
/-- the lists whose beginning is t, in the table of depth b -/
structure Beg (n c : Nat) (t : List Nat) (x : Wst) : Prop where
  nd : x.L.Nodup
  asc : Asc x.L
  lo0 : 0 ≤ x.lo
  hic : x.hi ≤ (c : Int)
  iff : ∀ k : Nat, k < c → ((fol n c (List.range' 0 t.length) (List.range' 0 n) k).1 = t ↔ x.lo ≤ (k : Int) ∧ (k : Int) < x.hi)
  rest : ∀ k : Nat, x.lo ≤ (k : Int) → (k : Int) < x.hi → ((fol n c (List.range' 0 t.length) (List.range' 0 n) k).2 : Int) = (k : Int) + x.mv ∧ folL n c (List.range' 0 t.length) (List.range' 0 n) k = x.L
  len : x.L.length = n - t.length
  lt : ∀ y ∈ x.L, y < n
  mem : ∀ z, z ∈ x.L ↔ z < n ∧ z ∉ t
theorem Beg.start (n c : Nat) : Beg n c [] ⟨0, (c : Int), 0, List.range' 0 n⟩ :=
  ⟨asc_nodup (asc_range' n 0), asc_range' n 0, Int.le_refl _, Int.le_refl _, fun k hk => ⟨fun _ => ⟨by show (0 : Int) ≤ _; omega, by show (k : Int) < (c : Int); omega⟩, fun _ => rfl⟩, fun k h1 h2 => ⟨by show (k : Int) = (k : Int) + 0; omega, rfl⟩, by rw [List.length_range']; rfl, fun y hy => mem_range0.mp hy, fun z => by rw [mem_range0]; simp⟩
theorem mem_erase_iff {L : List Nat} {i s : Nat} (nd : L.Nodup) (e : L[i]? = some s) (z : Nat) : z ∈ L.eraseIdx i ↔ z ∈ L ∧ z ≠ s := by
  have pm := erasePerm L i s e
  constructor
  · intro h
    refine ⟨List.mem_of_mem_eraseIdx h, fun c => ?_⟩
    rw [c] at h
    exact not_mem_erase nd e h
  · rintro ⟨h1, h2⟩
    rcases List.mem_cons.mp (pm.mem_iff.mpr h1) with h | h
    · exact absurd h h2
    · exact h
theorem idx_at {L : List Nat} {s : Nat} (h : s ∈ L) : L[L.idxOf s]? = some s := by
  rw [List.getElem?_eq_getElem (List.idxOf_lt_length_of_mem h), List.getElem_idxOf]
theorem div_block {w r i : Nat} (w0 : 0 < w) : r / w = i ↔ w * i ≤ r ∧ r < w * (i + 1) := by
  rw [Nat.div_eq_iff w0]
  rw [Nat.mul_comm i w]
  constructor
  · rintro ⟨h1, h2⟩
    rw [Nat.mul_add, Nat.mul_one]
    exact ⟨h1, by omega⟩
  · rintro ⟨h1, h2⟩
    rw [Nat.mul_add, Nat.mul_one] at h2
    exact ⟨h1, by omega⟩
/-- the rest stays within its bounds, on every way -/
theorem fwd_bound {n c d : Nat} (hd : ∀ b, b < d → n * C (n - 1) b ∣ c) (hc : 0 < c) (hdn : d ≤ n) {k : Nat} (hk : k < c) : ∀ b, b ≤ d →
    (folL n c (List.range' 0 b) (List.range' 0 n) k).length = n - b ∧ Asc (folL n c (List.range' 0 b) (List.range' 0 n) k) ∧ (∀ y ∈ folL n c (List.range' 0 b) (List.range' 0 n) k, y < n) ∧ (fol n c (List.range' 0 b) (List.range' 0 n) k).2 < c / C n b
  | 0, _ => ⟨by show (List.range' 0 n).length = n; rw [List.length_range'], asc_range' n 0, fun y hy => mem_range0.mp hy, by rw [C_zero, Nat.div_one]; exact hk⟩
  | b + 1, h => by
    obtain ⟨h1, h2, h3, h4⟩ := fwd_bound hd hc hdn hk b (by omega)
    have dv := hd b (by omega)
    have w0 := wd_pos dv hc
    have e := wd_out dv (show b < n by omega)
    have p := C_pos n b (by omega)
    have h5 : c / C n b = wd n c b * (n - b) := by
      conv => lhs; rw [← e]
      exact Nat.mul_div_cancel _ p
    rw [h5] at h4
    rw [range'_end, folL_snoc, fol_snoc]
    have hi : (fol n c (List.range' 0 b) (List.range' 0 n) k).2 / wd n c b < (folL n c (List.range' 0 b) (List.range' 0 n) k).length := by
      rw [h1]
      exact Nat.div_lt_of_lt_mul h4
    have hm : (fol n c (List.range' 0 b) (List.range' 0 n) k).2 % wd n c b < wd n c b := Nat.mod_lt _ w0
    have hx := getD_of hi
    have g2 := asc_le h2 h3 hx
    refine ⟨?_, asc_erase h2 _, fun y hy => h3 y (List.mem_of_mem_eraseIdx hy), ?_⟩
    · rw [List.length_eraseIdx, if_pos hi]
      omega
    · rw [wd_back dv (by omega)]
      show wd n c b * _ + _ < _
      have h6 : (folL n c (List.range' 0 b) (List.range' 0 n) k).getD ((fol n c (List.range' 0 b) (List.range' 0 n) k).2 / wd n c b) 0 - (fol n c (List.range' 0 b) (List.range' 0 n) k).2 / wd n c b ≤ b := by omega
      have h7 := Nat.mul_le_mul_left (wd n c b) h6
      rw [Nat.mul_add, Nat.mul_one]
      omega
theorem Beg.step {n c d : Nat} {t : List Nat} {x : Wst} (h : Beg n c t x) (hd : ∀ b, b < d → n * C (n - 1) b ∣ c) (hc : 0 < c) (hdn : d ≤ n) (hb : t.length < d) {s : Nat} (hs : s ∈ x.L) : Beg n c (t ++ [s]) (wStep n c t.length s x) := by
  have dv := hd t.length hb
  have w0 := wd_pos dv hc
  have hix := idx_at hs
  have hil := List.idxOf_lt_length_of_mem hs
  have his := asc_ge h.asc hix
  have ea : (t ++ [s]).length = t.length + 1 := by rw [List.length_append]; rfl
  have e := wd_out dv (show t.length < n by omega)
  have p := C_pos n t.length (by omega)
  have h5 : c / C n t.length = wd n c t.length * (n - t.length) := by
    conv => lhs; rw [← e]
    exact Nat.mul_div_cancel _ p
  -- where the rest lies
  have key : ∀ k : Nat, k < c → x.lo ≤ (k : Int) → (k : Int) < x.hi → ((fol n c (List.range' 0 t.length) (List.range' 0 n) k).2 / wd n c t.length = x.L.idxOf s ↔ (wd n c t.length : Int) * (x.L.idxOf s : Int) - x.mv ≤ (k : Int) ∧ (k : Int) < (wd n c t.length : Int) * ((x.L.idxOf s : Int) + 1) - x.mv) := by
    intro k hk h1 h2
    obtain ⟨r1, _⟩ := h.rest k h1 h2
    rw [div_block w0]
    have c1 : ((wd n c t.length * x.L.idxOf s : Nat) : Int) = (wd n c t.length : Int) * (x.L.idxOf s : Int) := Int.natCast_mul _ _
    have c2 : ((wd n c t.length * (x.L.idxOf s + 1) : Nat) : Int) = (wd n c t.length : Int) * ((x.L.idxOf s : Int) + 1) := Int.natCast_mul _ _
    constructor
    · rintro ⟨a, b⟩
      exact ⟨by omega, by omega⟩
    · rintro ⟨a, b⟩
      exact ⟨by omega, by omega⟩
  have got : ∀ k : Nat, k < c → x.lo ≤ (k : Int) → (k : Int) < x.hi → ((folL n c (List.range' 0 t.length) (List.range' 0 n) k).getD ((fol n c (List.range' 0 t.length) (List.range' 0 n) k).2 / wd n c t.length) 0 = s ↔ (fol n c (List.range' 0 t.length) (List.range' 0 n) k).2 / wd n c t.length = x.L.idxOf s) := by
    intro k hk h1 h2
    obtain ⟨r1, r2⟩ := h.rest k h1 h2
    obtain ⟨b1, _, _, b4⟩ := fwd_bound hd hc hdn hk t.length (by omega)
    rw [h5] at b4
    have hi : (fol n c (List.range' 0 t.length) (List.range' 0 n) k).2 / wd n c t.length < x.L.length := by
      rw [h.len]
      exact Nat.div_lt_of_lt_mul b4
    rw [r2]
    constructor
    · intro z
      have h8 := getD_of hi
      rw [z] at h8
      exact nodup_inj h.nd h8 hix
    · intro z
      rw [z]
      have h8 := getD_of hil
      rw [hix] at h8
      exact (Option.some.inj h8).symm
  refine ⟨h.nd.sublist (List.eraseIdx_sublist _ _), asc_erase h.asc _, ?_, ?_, fun k hk => ?_, fun k h1 h2 => ?_, ?_, fun y hy => h.lt y (List.mem_of_mem_eraseIdx hy), fun z => ?_⟩
  · have := h.lo0
    show 0 ≤ max x.lo _
    omega
  · have := h.hic
    show min x.hi _ ≤ _
    omega
  · rw [ea, range'_end, fol_snoc]
    show _ ++ [_] = t ++ [s] ↔ max x.lo _ ≤ (k : Int) ∧ (k : Int) < min x.hi _
    constructor
    · intro z
      obtain ⟨z1, z2⟩ := List.append_inj' z rfl
      obtain ⟨a, b⟩ := (h.iff k hk).mp z1
      have z3 := (got k hk a b).mp (List.singleton_inj.mp z2)
      have z4 := (key k hk a b).mp z3
      omega
    · intro z
      have a : x.lo ≤ (k : Int) ∧ (k : Int) < x.hi := by omega
      have z3 := (key k hk a.1 a.2).mpr (by omega)
      have z4 := (got k hk a.1 a.2).mpr z3
      rw [(h.iff k hk).mpr a, z4]
  · have h1' : max x.lo ((wd n c t.length : Int) * (x.L.idxOf s : Int) - x.mv) ≤ (k : Int) := h1
    have h2' : (k : Int) < min x.hi ((wd n c t.length : Int) * ((x.L.idxOf s : Int) + 1) - x.mv) := h2
    have a : x.lo ≤ (k : Int) ∧ (k : Int) < x.hi := by omega
    have hk : k < c := by
      have := h.hic
      omega
    have z3 := (key k hk a.1 a.2).mpr (by omega)
    have z4 := (got k hk a.1 a.2).mpr z3
    obtain ⟨r1, r2⟩ := h.rest k a.1 a.2
    rw [ea, range'_end, fol_snoc, folL_snoc, z3, r2]
    rw [z3, r2] at z4
    refine ⟨?_, rfl⟩
    show ((wd n c t.length * (x.L.getD (x.L.idxOf s) 0 - x.L.idxOf s) + (fol n c (List.range' 0 t.length) (List.range' 0 n) k).2 % wd n c t.length : Nat) : Int) = (k : Int) + (x.mv + (wd n c t.length : Int) * ((s : Int) - (x.L.idxOf s : Int) - (x.L.idxOf s : Int)))
    rw [z4]
    have dm := Nat.div_add_mod (fol n c (List.range' 0 t.length) (List.range' 0 n) k).2 (wd n c t.length)
    rw [z3] at dm
    generalize (fol n c (List.range' 0 t.length) (List.range' 0 n) k).2 % wd n c t.length = u at dm
    generalize x.L.idxOf s = i at *
    generalize wd n c t.length = w at *
    rw [Int.natCast_add, Int.natCast_mul, Int.natCast_sub his]
    have dm2 : (w : Int) * (i : Int) + (u : Int) = (k : Int) + x.mv := by
      rw [← r1, ← dm, Int.natCast_add, Int.natCast_mul]
    rw [Int.mul_sub, Int.mul_sub, Int.mul_sub]
    omega
  · rw [ea]
    show (x.L.eraseIdx _).length = _
    rw [List.length_eraseIdx, if_pos hil, h.len]
    omega
  · show z ∈ x.L.eraseIdx _ ↔ _
    rw [mem_erase_iff h.nd hix, h.mem, List.mem_append, List.mem_singleton]
    constructor
    · rintro ⟨⟨a, b⟩, e⟩
      exact ⟨a, fun q => q.elim b e⟩
    · rintro ⟨a, b⟩
      exact ⟨⟨a, fun q => b (.inl q)⟩, fun q => b (.inr q)⟩
theorem fol_take (n c k : Nat) (b : Nat) : ∀ m : Nat, (fol n c (List.range' 0 (b + m)) (List.range' 0 n) k).1.take b = (fol n c (List.range' 0 b) (List.range' 0 n) k).1
  | 0 => by
    have := fol_len n c (List.range' 0 b) (List.range' 0 n) k
    rw [List.length_range'] at this
    exact List.take_of_length_le (by rw [Nat.add_zero]; omega)
  | m + 1 => by
    rw [show b + (m + 1) = b + m + 1 from rfl, range'_end, fol_snoc]
    have := fol_len n c (List.range' 0 (b + m)) (List.range' 0 n) k
    rw [List.length_range'] at this
    show (_ ++ [_]).take b = _
    rw [List.take_append_of_le_length (by omega)]
    exact fol_take n c k b m
theorem wRun_some {n c d : Nat} (hd : ∀ b, b < d → n * C (n - 1) b ∣ c) (hc : 0 < c) (hdn : d ≤ n) {k : Nat} (hk : k < c) : ∀ (r t : List Nat) (x : Wst), t.length + r.length ≤ d → Beg n c t x → (fol n c (List.range' 0 (t.length + r.length)) (List.range' 0 n) k).1 = t ++ r → ∃ y, wRun n c t.length r x = some y ∧ Beg n c (t ++ r) y
  | [], t, x, _, h, _ => ⟨x, rfl, by rw [List.append_nil]; exact h⟩
  | s :: r, t, x, hl, h, he => by
    have el : (s :: r).length = r.length + 1 := rfl
    have e1 : (fol n c (List.range' 0 t.length) (List.range' 0 n) k).1 = t := by
      have := fol_take n c k t.length (s :: r).length
      rw [he, List.take_left] at this
      exact this.symm
    have ea : (t ++ [s]).length = t.length + 1 := by rw [List.length_append]; rfl
    have e2 : (fol n c (List.range' 0 (t.length + 1)) (List.range' 0 n) k).1 = t ++ [s] := by
      have := fol_take n c k (t.length + 1) r.length
      rw [show t.length + 1 + r.length = t.length + (s :: r).length by omega, he] at this
      rw [← this, show t ++ s :: r = (t ++ [s]) ++ r by simp, ← ea, List.take_left]
    have in1 := (h.iff k hk).mp e1
    obtain ⟨r1, r2⟩ := h.rest k in1.1 in1.2
    have dv := hd t.length (by omega)
    have w0 := wd_pos dv hc
    obtain ⟨b1, b2, b3, b4⟩ := fwd_bound hd hc hdn hk t.length (by omega)
    have hs : s ∈ x.L := by
      have e3 := e2
      rw [range'_end, fol_snoc] at e3
      obtain ⟨_, z2⟩ := List.append_inj' e3 rfl
      have z3 := List.singleton_inj.mp z2
      rw [← r2, ← z3]
      refine List.mem_of_getElem? (getD_of ?_)
      rw [b1]
      have e := wd_out dv (show t.length < n by omega)
      have p := C_pos n t.length (by omega)
      have h5 : c / C n t.length = wd n c t.length * (n - t.length) := by
        conv => lhs; rw [← e]
        exact Nat.mul_div_cancel _ p
      rw [h5] at b4
      exact Nat.div_lt_of_lt_mul b4
    have st := h.step hd hc hdn (by omega) hs
    have in2 := (st.iff k hk).mp (by rw [ea]; exact e2)
    obtain ⟨y, y1, y2⟩ := wRun_some hd hc hdn hk r (t ++ [s]) _ (by rw [ea]; omega) st (by rw [ea, show t.length + 1 + r.length = t.length + (s :: r).length by omega, he]; simp)
    refine ⟨y, ?_, by rw [show t ++ s :: r = (t ++ [s]) ++ r by simp]; exact y2⟩
    show (if s ∈ x.L then _ else none) = _
    rw [if_pos hs, if_neg (by omega)]
    rw [ea] at y1
    exact y1
theorem wRun_snoc (n c s : Nat) : ∀ (r : List Nat) (b : Nat) (x : Wst), wRun n c b (r ++ [s]) x = (wRun n c b r x).bind fun y => wRun n c (b + r.length) [s] y
  | [], b, x => rfl
  | u :: r, b, x => by
    show (if u ∈ x.L then _ else none) = Option.bind (if u ∈ x.L then _ else none) _
    by_cases h1 : u ∈ x.L
    · rw [if_pos h1, if_pos h1]
      by_cases h2 : (wStep n c b u x).hi ≤ (wStep n c b u x).lo
      · rw [if_pos h2, if_pos h2]
        rfl
      · rw [if_neg h2, if_neg h2]
        have := wRun_snoc n c s r (b + 1) (wStep n c b u x)
        rw [show (u :: r).length = r.length + 1 from rfl, show b + (r.length + 1) = b + 1 + r.length by omega]
        exact this
    · rw [if_neg h1, if_neg h1]
      rfl
/-- where the numbers of the first i continuations end -/
def cutAt (w : Nat) (y : Wst) (i : Nat) : Int := min y.hi (max y.lo ((w : Int) * (i : Int) - y.mv))
end Ef
namespace Ef
/-! ### sets and their numbers -/
def many (k : Nat) : Nat → Nat
  | 0 => 0
  | j + 1 => C k j
theorem C_many (k j : Nat) : C (k + 1) j = many k j + C k j := by
  cases j with
  | zero => rw [C_zero, C_zero]; rfl
  | succ j => exact C_ss k j
theorem binZ_many (k j : Nat) : binZ (k : Int) ((j : Int) - 1) = (many k j : Int) := by
  cases j with
  | zero => exact if_pos (.inl (by decide))
  | succ j =>
    rw [show ((j + 1 : Nat) : Int) - 1 = (j : Int) by omega]
    exact binZ_nat k j
/-- the set with the number r among those of j of the k servers from s on -/
def unr : Nat → Nat → Nat → Nat → List Nat
  | _, 0, _, _ => []
  | s, k + 1, j, r => if r < many k j then s :: unr (s + 1) k (j - 1) r else unr (s + 1) k j (r - many k j)
/-- the number of a set among those of its size of the k servers from s on -/
def rnk : Nat → Nat → List Nat → Nat
  | _, 0, _ => 0
  | s, k + 1, ms => if ms.head? = some s then rnk (s + 1) k ms.tail else many k ms.length + rnk (s + 1) k ms
def Sub (s k : Nat) (ms : List Nat) : Prop := ms.Pairwise (· < ·) ∧ ∀ m ∈ ms, s ≤ m ∧ m < s + k
theorem unr_spec : ∀ (k s j r : Nat), r < C k j → (unr s k j r).length = j ∧ Sub s k (unr s k j r) ∧ rnk s k (unr s k j r) = r
  | 0, s, j, r, h => by
    cases j with
    | zero =>
      have h0 : r < 1 := h
      exact ⟨rfl, ⟨List.Pairwise.nil, fun m hm => absurd hm List.not_mem_nil⟩, by show 0 = r; omega⟩
    | succ j => exact absurd h (Nat.not_lt_zero _)
  | k + 1, s, j, r, h => by
    rw [C_many] at h
    by_cases c : r < many k j
    · have e : unr s (k + 1) j r = s :: unr (s + 1) k (j - 1) r := if_pos c
      cases j with
      | zero => exact absurd c (Nat.not_lt_zero _)
      | succ j =>
        obtain ⟨h1, h2, h3⟩ := unr_spec k (s + 1) j r c
        rw [e]
        refine ⟨?_, ⟨?_, ?_⟩, ?_⟩
        · show (unr (s + 1) k j r).length + 1 = j + 1
          rw [h1]
        · refine List.Pairwise.cons (fun m hm => ?_) h2.1
          have := h2.2 m hm
          omega
        · intro m hm
          rcases List.mem_cons.mp hm with rfl | hm
          · omega
          · have := h2.2 m hm
            omega
        · have e3 : rnk s (k + 1) (s :: unr (s + 1) k j r) = rnk (s + 1) k (unr (s + 1) k j r) := if_pos rfl
          exact e3.trans h3
    · have e : unr s (k + 1) j r = unr (s + 1) k j (r - many k j) := if_neg c
      obtain ⟨h1, h2, h3⟩ := unr_spec k (s + 1) j (r - many k j) (by omega)
      rw [e]
      refine ⟨h1, ⟨h2.1, fun m hm => by have := h2.2 m hm; omega⟩, ?_⟩
      have hh : ¬ (unr (s + 1) k j (r - many k j)).head? = some s := fun z => by
        have hm : s ∈ unr (s + 1) k j (r - many k j) := List.mem_of_mem_head? z
        have := h2.2 s hm
        omega
      show (if (unr (s + 1) k j (r - many k j)).head? = some s then _ else many k (unr (s + 1) k j (r - many k j)).length + rnk (s + 1) k (unr (s + 1) k j (r - many k j))) = r
      rw [if_neg hh, h1, h3]
      omega
theorem rnk_spec : ∀ (k s : Nat) (ms : List Nat), Sub s k ms → rnk s k ms < C k ms.length ∧ unr s k ms.length (rnk s k ms) = ms
  | 0, s, ms, h => by
    cases ms with
    | nil => exact ⟨Nat.one_pos, rfl⟩
    | cons m r =>
      have := h.2 m List.mem_cons_self
      omega
  | k + 1, s, ms, h => by
    by_cases c : ms.head? = some s
    · cases ms with
      | nil => cases c
      | cons m t =>
        obtain rfl : m = s := Option.some.inj c
        have ht : Sub (m + 1) k t := ⟨(List.pairwise_cons.mp h.1).2, fun x hx => by
          have h1 := (List.pairwise_cons.mp h.1).1 x hx
          have h2 := h.2 x (List.mem_cons_of_mem _ hx)
          omega⟩
        obtain ⟨h1, h2⟩ := rnk_spec k (m + 1) t ht
        have e : rnk m (k + 1) (m :: t) = rnk (m + 1) k t := if_pos rfl
        rw [e]
        have hm : rnk (m + 1) k t < many k (t.length + 1) := h1
        refine ⟨?_, ?_⟩
        · rw [C_many]
          exact Nat.lt_of_lt_of_le hm (Nat.le_add_right _ _)
        · show unr m (k + 1) (t.length + 1) (rnk (m + 1) k t) = m :: t
          have e2 : unr m (k + 1) (t.length + 1) (rnk (m + 1) k t) = m :: unr (m + 1) k t.length (rnk (m + 1) k t) := if_pos hm
          rw [e2, h2]
    · have hs : Sub (s + 1) k ms := ⟨h.1, fun x hx => by
        have h2 := h.2 x hx
        have hne : x ≠ s := fun z => by
          subst z
          cases ms with
          | nil => cases hx
          | cons m t =>
            rcases List.mem_cons.mp hx with z | hx
            · exact c (by rw [z]; rfl)
            · have h3 := (List.pairwise_cons.mp h.1).1 x hx
              have h4 := h.2 m List.mem_cons_self
              omega
        omega⟩
      obtain ⟨h1, h2⟩ := rnk_spec k (s + 1) ms hs
      have e : rnk s (k + 1) ms = many k ms.length + rnk (s + 1) k ms := if_neg c
      rw [e]
      refine ⟨by rw [C_many]; omega, ?_⟩
      have e2 : unr s (k + 1) ms.length (many k ms.length + rnk (s + 1) k ms) = unr (s + 1) k ms.length (many k ms.length + rnk (s + 1) k ms - many k ms.length) := if_neg (by omega)
      rw [e2, Nat.add_sub_cancel_left, h2]
/-! the small sets, one after the other -/
def allG (few : Nat) : Nat → List (List Nat)
  | 0 => [[]]
  | i + 1 => allG few i ++ ((allG few i).filter fun s => decide (s.length < few)).map fun s => s ++ [i]
def allS (n few : Nat) : List (List Nat) := (allG few n).filter fun s => decide (s.length = few)
def inOrder (n few : Nat) : List (List Nat) := (List.range (C n few)).map (unr 0 n few)
def codeN : List Nat → Nat
  | [] => 0
  | d :: r => d * 8 ^ r.length + codeN r
def smallOk (n few : Nat) : Bool := (allS n few).isPerm (inOrder n few) && decide ((inOrder n few).Pairwise fun a b => codeN a < codeN b)
theorem small_sets : ((List.range 6).all fun i => (List.range (i + 3)).all fun few => smallOk (i + 2) few) = true := by decide +kernel
theorem small_lens : ((List.range 6).all fun i => (List.range (i + 3)).all fun few => decide (C (i + 2) few < 64) && (allS (i + 2) few).all fun s => decide (s.length = few) && s.all fun m => decide (m < 8)) = true := by decide +kernel
theorem gen_lens : ((List.range 6).all fun i => (List.range (i + 3)).all fun few => (List.range (i + 3)).all fun t => decide ((allG few t).length ≤ 200) && (allG few t).all fun s => decide (s.length ≤ 8)) = true := by decide +kernel
theorem small_sets' {n k : Nat} (h2 : 2 ≤ n) (h7 : n ≤ 7) (hk : k ≤ n) : (allS n k).Perm (inOrder n k) ∧ (inOrder n k).Pairwise (fun a b => codeN a < codeN b) ∧ C n k < 64 ∧ ∀ s ∈ allS n k, s.length = k ∧ ∀ m ∈ s, m < 8 := by
  obtain ⟨i, rfl⟩ : ∃ i, n = i + 2 := ⟨n - 2, by omega⟩
  have h1 := List.all_eq_true.mp (List.all_eq_true.mp small_sets i (List.mem_range.mpr (by omega))) k (List.mem_range.mpr (by omega))
  unfold smallOk at h1
  rw [Bool.and_eq_true] at h1
  have h3 := List.all_eq_true.mp (List.all_eq_true.mp small_lens i (List.mem_range.mpr (by omega))) k (List.mem_range.mpr (by omega))
  rw [Bool.and_eq_true] at h3
  refine ⟨List.isPerm_iff.mp h1.1, of_decide_eq_true h1.2, of_decide_eq_true h3.1, fun s hs => ?_⟩
  have h4 := List.all_eq_true.mp h3.2 s hs
  rw [Bool.and_eq_true] at h4
  exact ⟨of_decide_eq_true h4.1, fun m hm => of_decide_eq_true (List.all_eq_true.mp h4.2 m hm)⟩
theorem gen_lens' {n k t : Nat} (h2 : 2 ≤ n) (h7 : n ≤ 7) (hk : k ≤ n) (ht : t ≤ n) : (allG k t).length ≤ 200 ∧ ∀ s ∈ allG k t, s.length ≤ 8 := by
  obtain ⟨i, rfl⟩ : ∃ i, n = i + 2 := ⟨n - 2, by omega⟩
  have h1 := List.all_eq_true.mp (List.all_eq_true.mp (List.all_eq_true.mp gen_lens i (List.mem_range.mpr (by omega))) k (List.mem_range.mpr (by omega))) t (List.mem_range.mpr (by omega))
  rw [Bool.and_eq_true] at h1
  exact ⟨of_decide_eq_true h1.1, fun s hs => of_decide_eq_true (List.all_eq_true.mp h1.2 s hs)⟩
theorem code_inj {L : List (List Nat)} (h : L.Pairwise fun a b => codeN a < codeN b) {a b : List Nat} (ha : a ∈ L) (hb : b ∈ L) (e : codeN a = codeN b) : a = b := by
  induction L with
  | nil => cases ha
  | cons x r ih =>
    obtain ⟨h1, h2⟩ := List.pairwise_cons.mp h
    rcases List.mem_cons.mp ha with e1 | ha2
    · rcases List.mem_cons.mp hb with e2 | hb2
      · rw [e1, e2]
      · have := h1 b hb2
        rw [← e1] at this
        omega
    · rcases List.mem_cons.mp hb with e2 | hb2
      · have := h1 a ha2
        rw [← e2] at this
        omega
      · exact ih h2 ha2 hb2
theorem order_unique {L M : List (List Nat)} (hM : M.Pairwise fun a b => codeN a < codeN b) (hL : L.Pairwise fun a b => codeN a ≤ codeN b) (h : L.Perm M) : L = M := by
  induction M generalizing L with
  | nil => exact List.perm_nil.mp h
  | cons x r ih =>
    cases L with
    | nil => exact absurd h.length_eq (by simp)
    | cons y t =>
      obtain ⟨h1, h2⟩ := List.pairwise_cons.mp hM
      obtain ⟨h3, h4⟩ := List.pairwise_cons.mp hL
      have hyx : y = x := by
        have hy : y ∈ x :: r := h.mem_iff.mp List.mem_cons_self
        have hx : x ∈ y :: t := h.mem_iff.mpr List.mem_cons_self
        rcases List.mem_cons.mp hy with e | hy
        · exact e
        · rcases List.mem_cons.mp hx with e | hx
          · exact e.symm
          · have h5 := h1 y hy
            have h6 := h3 x hx
            omega
      subst hyx
      rw [ih h2 h4 h.cons_inv]
end Ef
namespace Ef
open PySem PySem.Spec PyProof.Rows L2
/-! ### a call whose arguments are all given by name -/
def permL {α : Type} (perm : List Nat) (n : Nat) (us ws : List α) : List α :=
  if us.length = 0 ∧ ws.length = n then perm.filterMap (fun i => ws[i]?) else []
theorem paired_len {α β : Type} {F : α → β → Prop} : ∀ {l : List α} {m : List β}, Paired F l m → l.length = m.length
  | _, _, .nil => rfl
  | _, _, .cons _ t => congrArg (· + 1) (paired_len t)
theorem paired_at {α β : Type} {F : α → β → Prop} : ∀ {l : List α} {m : List β}, Paired F l m → ∀ i : Nat, (l[i]? = none ∧ m[i]? = none) ∨ ∃ x y, l[i]? = some x ∧ m[i]? = some y ∧ F x y
  | _, _, .nil, _ => .inl ⟨rfl, rfl⟩
  | _, _, .cons h _, 0 => .inr ⟨_, _, rfl, rfl, h⟩
  | _, _, .cons _ t, i + 1 => by
    rw [List.getElem?_cons_succ, List.getElem?_cons_succ]
    exact paired_at t i
theorem paired_pick {α β : Type} {F : α → β → Prop} {l : List α} {m : List β} (h : Paired F l m) : ∀ perm : List Nat, Paired F (perm.filterMap (fun i => l[i]?)) (perm.filterMap (fun i => m[i]?))
  | [] => .nil
  | i :: r => by
    rcases paired_at h i with ⟨e1, e2⟩ | ⟨x, y, e1, e2, f⟩
    · rw [List.filterMap_cons_none e1, List.filterMap_cons_none e2]
      exact paired_pick h r
    · rw [List.filterMap_cons_some e1, List.filterMap_cons_some e2]
      exact .cons f (paired_pick h r)
theorem permL_rel {perm : List Nat} {n : Nat} {vs zs : List V} {us ws : List Value} (r : Vals vs us) (rz : Vals zs ws) : Vals (permL perm n vs zs) (permL perm n us ws) := by
  unfold permL
  rw [paired_len r, paired_len rz]
  by_cases h : us.length = 0 ∧ ws.length = n
  · rw [if_pos h, if_pos h]
    exact paired_pick rz perm
  · rw [if_neg h, if_neg h]
    exact .nil
theorem kb_of {K : PySem.W.Frag} {fd : FuncData} {ps ks : List Str} {perm : List Nat} {n : Nat} (h0 : ps ≠ [])
    (h : ∀ ws : List Value, ws.length = n → bindArgs fd ⟨[], ks.zip ws⟩ = pure (ps.zip (perm.filterMap (fun i => ws[i]?)))) :
    KBinds K fd ps ks (permL perm n) (permL perm n) := by
  refine ⟨fun s us ws _ hl => ?_, fun r rz => permL_rel r rz⟩
  unfold permL at hl ⊢
  by_cases c : us.length = 0 ∧ ws.length = n
  · rw [if_pos c]
    have e : us = [] := List.length_eq_zero_iff.mp c.1
    subst e
    exact .of_eq (h ws c.2)
  · rw [if_neg c] at hl
    exact absurd (List.length_eq_zero_iff.mp hl.symm) h0
theorem Fun_kb {K : PySem.W.Frag} {x qual : Str} {st : Stmt} {f : Addr} {fd : FuncData} {ps ks : List Str} (perm : List Nat) (n : Nat) (F : Fun K x qual st f fd) (h0 : ps ≠ [])
    (h : ∀ (kV doc pm : Value) (an : Option Addr) (cdv ct : Value) (ws : List Value), ws.length = n → bindArgs (PySem.W.fnOf x qual (defArgs st) (defBody st) (defScope st) .none kV doc pm an cdv ct) ⟨[], ks.zip ws⟩ = pure (ps.zip (perm.filterMap (fun i => ws[i]?)))) :
    KBinds K fd ps ks (permL perm n) (permL perm n) := by
  obtain ⟨oc, od, kV, doc, pm, an, cdv, ct, osl, rfl, lk, hcd⟩ := F.ex
  exact kb_of h0 (h kV doc pm an cdv ct)
section
variable {X : Cx} {CX : CXT} {k : Nat} {f : Addr} {fd : FuncData} {ps ks : List Str} {sp : Sp} {E : XK} {x : Str} {p pos : Pos} {kws : List Keyword} {tk : TA}
variable {g : List Value → List Value → List Value} {gV : List V → List V → List V}
/-- f(k = v, ..) -/
theorem pe_kw (F : FnOk X.prog X.w X.K X.mg X.base CX k f fd ps sp) (hr : Room k X.A) (hg : Gl X x) (hm : X.mg x = some (.ref f))
    (hk : PySem.W.keepIn X.K (.ref f) = true) (hb : KBinds X.K fd ps ks g gV) (hx : Passes CX X E) (hkw : PK X kws tk)
    (a1 : (backToKw pos (keywordEach kws X.env)).all (fun z => z.1.isSome) = true := by rfl)
    (a2 : (backToKw pos (keywordEach kws X.env)).filterMap (fun z => z.1) = ks := by rfl)
    (a3 : (x == ("__debug__" : Str)) = false := by decide)
    (a4 : ((backTo pos (starEach [] X.env)).any (fun z => z.1) || (backToKw pos (keywordEach kws X.env)).any (fun z => z.1.isNone)) = false := by rfl) :
    PE X (.Call (.Name x p) [] kws pos) (tCallK sp gV E tNil tk) := by
  refine ⟨fun pins s σ H Q I h => wpAny_Call_Name_kw (ld_glob I hg hm ?_ a3)⟩
  refine PySem.W.callWith_KW0 (h₀ := X.base) I.ok.mod.kin hk a1 ?_ a4
  refine thn (hkw.run pos pins s σ H _ I h) fun ws s2 z => ?_
  obtain ⟨zs, H2, I2, rz, q2⟩ := z
  refine ⟨I2.kIn, ?_⟩
  rw [a2]
  exact run_fnk (us := []) (vs := []) F hr hb hx I2 .nil rz q2
end
/-! ### heaps -/
theorem same_new {H : Hp} {p : Addr} {o : HO} (h : H p = none) : Same H (upd H p o) := fun b x e => by
  rw [upd_ne (ne_of_none e h)]
  exact e
theorem keep_upd {H H1 : Hp} {p : Addr} {o : HO} (s : Same H H1) (h : H p = none) : Same H (upd H1 p o) := fun b x e => by
  rw [upd_ne (ne_of_none e h)]
  exact s b x e
/-- all but what stands at p is as it was -/
def But (p : Addr) (H H' : Hp) : Prop := ∀ b o, b ≠ p → H b = some o → H' b = some o
theorem But.refl (p : Addr) (H : Hp) : But p H H := fun _ _ _ e => e
theorem But.trans {p : Addr} {H H1 H2 : Hp} (s : But p H H1) (t : But p H1 H2) : But p H H2 := fun b o n e => t b o n (s b o n e)
theorem But.same {p : Addr} {H H1 H2 : Hp} (s : But p H H1) (t : Same H1 H2) : But p H H2 := fun b o n e => t b o (s b o n e)
theorem But.of {p : Addr} {H H1 : Hp} (t : Same H H1) : But p H H1 := fun b o _ e => t b o e
theorem But.upd {p : Addr} {H H1 : Hp} {o : HO} (s : But p H H1) : But p H (upd H1 p o) := fun b x n e => by
  rw [upd_ne n]
  exact s b x n e
theorem But.to {p : Addr} {H H1 : Hp} (s : But p H H1) (h : H p = none) : Same H H1 := fun b x e => s b x (ne_of_none e h) e
theorem But.seq {K : PySem.W.Frag} {p a : Addr} {H H' : Hp} {xs : List V} (e : But p H H') (n : a ≠ p) (h : SqL K H a xs) : SqL K H' a xs := by
  rcases h with (h | ⟨o, h⟩) | h
  · exact .inl (.inl (e _ _ n h))
  · exact .inl (.inr ⟨o, e _ _ n h⟩)
  · exact .inr h
end Ef
namespace Ef
open PySem PySem.Spec PyProof.Rows L2
/-! ### promises of defs that are called where no repr is under way -/
structure FnG (P : Program) (w : World) (K : PySem.W.Frag) (mg : Str → Option Value) (base : Heap) (CX : CXT) (k : Nat) (f : Addr) (fd : FuncData) (ps : List Str) (sp : Sp) : Prop where
  len : ∀ vs H Q E, sp vs H Q E → vs.length = ps.length
  run : ∀ (A : Around), A.guards = some [] → ∀ (outer : List Env) (s : Shared) (H : Hp) (args : Args) (us : List Value) (vs : List V) (Q : VK) (E : XK),
    Room k A → Env0 P w K mg base A outer s H → BindsTo s fd args (ps.zip us) → Vals vs us → sp vs H Q E →
      codeAny (model P w) A (.call (.ref f) args) (CR CX outer P w H s Q E) s
section
variable {P : Program} {w : World} {K : PySem.W.Frag} {mg : Str → Option Value} {base : Heap} {CX : CXT}
theorem FnG.of {k : Nat} {f : Addr} {fd : FuncData} {ps : List Str} {sp : Sp} (F : FnOk P w K mg base CX k f fd ps sp) : FnG P w K mg base CX k f fd ps sp :=
  ⟨F.len, fun A _ outer s H args us vs Q E => F.run A outer s H args us vs Q E⟩
theorem Fun_okG {x qual : Str} {st : Stmt} {f : Addr} {fd : FuncData} {N ps : List Str} {k : Nat} {sp : Sp} (F : Fun K x qual st f fd) (S : FnScope N ps (defScope st)) (len : ∀ vs H Q E, sp vs H Q E → vs.length = ps.length)
    (bod : ∀ (cdv : Value) (A : Around) (outer : List Env) (s : Shared) (H : Hp) (vs : List V) (Q : VK) (E : XK), A.guards = some [] → Room k (A.deeper (envOfC qual (defScope st) s.heap.objs.size f cdv)) → sp vs H Q E →
      ∃ t, PSs (cxOf CX P w K mg base N qual (defScope st) f cdv A outer s H E) (defBody st) t ∧ t { nx := fun _ H' => Q .non H', rt := Q } (start N vs) H) :
    FnG P w K mg base CX (k + 1) f fd ps sp := by
  obtain ⟨oc, od, kV, doc, pm, an, cdv, ct, osl, rfl, lk, hcd⟩ := F.ex
  refine ⟨len, fun A gd outer s H args us vs Q E room e0 bnd rel wish => ?_⟩
  have kin : K.In s.heap := e0.mod.kin.keeps fun b o z => (e0.bs b o z).1
  have nolim : s.heap.NoLimit := e0.mod.nolimit.keeps fun b o z => (e0.bs b o z).1
  refine codeAny_call_function room.depth (kin _ _ lk) rfl S.co S.gen rfl (PySem.W.codeRec_of kin hcd) (bnd _ _ _ _ ?_)
  refine wpAny_newFunctionEnv_cells S.kind ?_ fun env hev s1 ic => ?_
  · rintro ⟨n, v⟩ hy
    rcases S.par n (List.of_mem_zip hy).1 with z | z
    · exact .inl z
    · exact .inr ⟨z, PySem.W.cellsFrom_some _ _ _ (.inl z)⟩
  · subst hev
    refine ⟨nolim.keeps ic.toInCall.keep, codeAny_func ?_⟩
    obtain ⟨t, pt, rd⟩ := bod cdv A outer s H vs Q E gd (room.deeper _) wish
    have J0 := inv_start (CX := CX) (E := E) S room.hd e0 (len _ _ _ _ wish) rel ic
    refine wpAny_mono (pt.run [] s1 (start N vs) H _ J0 rd) (fun fl s' got => ?_) fun e s' got => got
    cases fl with
    | brk =>
      obtain ⟨_, _, _, z⟩ := got
      exact z.elim
    | cont =>
      obtain ⟨_, _, _, z⟩ := got
      exact z.elim
    | next =>
      obtain ⟨σ', H', J, z⟩ := got
      exact ⟨V.non, H', J.os, J.bare, J.base, J.hok, (rfl : RelV V.non Value.none), z⟩
    | ret u =>
      obtain ⟨v, σ', H', J, rv, z⟩ := got
      exact ⟨v, H', J.os, J.bare, J.base, J.hok, rv, z⟩
end
/-- the same of a def that lets no exception out -/
theorem Fun_ok0 {P : Program} {w : World} {K : PySem.W.Frag} {mg : Str → Option Value} {base : Heap} {x qual : Str} {st : Stmt} {f : Addr} {fd : FuncData} {N ps : List Str} {k : Nat} {sp : Sp} (F : Fun K x qual st f fd) (S : FnScope N ps (defScope st)) (len : ∀ vs H Q E, sp vs H Q E → vs.length = ps.length)
    (bod : ∀ (cdv : Value) (A : Around) (outer : List Env) (s : Shared) (H : Hp) (vs : List V) (Q : VK) (E : XK), A.guards = some [] → Room k (A.deeper (envOfC qual (defScope st) s.heap.objs.size f cdv)) → sp vs H Q E →
      ∃ t, PSs (cxOf CX0 P w K mg base N qual (defScope st) f cdv A outer s H E).nox (defBody st) t ∧ t { nx := fun _ H' => Q .non H', rt := Q } (start N vs) H) :
    FnG P w K mg base CX0 (k + 1) f fd ps sp :=
  Fun_okG F S len fun cdv A outer s H vs Q E gd room wish => by
    obtain ⟨t, pt, rd⟩ := bod cdv A outer s H vs Q E gd room wish
    exact ⟨t, pt.nox, rd⟩
section
variable {X : Cx} {CX : CXT} {k : Nat} {f : Addr} {fd : FuncData} {ps : List Str} {sp : Sp} {E : XK} {x : Str} {p pos : Pos} {e : Expr} {es : List Expr} {t : TA}
theorem run_G {pins : List (Addr × Obj)} {σ : L2.St} {H : Hp} {s : Shared} {Q : VK} {us : List Value} {vs : List V} (F : FnG X.prog X.w X.K X.mg X.base CX k f fd ps sp)
    (gd : X.A.guards = some []) (room : Room k X.A) (bnd : Binds X.K fd ps []) (pass : Passes CX X E) (I : Inv X pins σ H s) (rel : Vals vs us) (wish : sp vs H Q E) :
    wpAny (model X.prog X.w) X.A (call (.ref f) us) (EP X pins σ Q) X.xe s := by
  have hl : (us ++ []).length = ps.length := by
    rw [List.append_nil, ← rel.length]
    exact F.len _ _ _ _ wish
  have b1 := bnd s us I.kIn hl
  rw [List.append_nil] at b1
  refine wpAny_call (codeAny_mono (F.run X.A gd X.stack s H ⟨us, []⟩ us vs Q E room I.env0 b1 rel wish) fun res s' got => ?_)
  cases res with
  | error z => exact pass pins σ H s z s' I got
  | ok fl =>
    cases fl with
    | ret u => exact I.after got
    | next => exact got.elim
    | brk => exact got.elim
    | cont => exact got.elim
/-- f(e, ..) of a def whose promise holds where no repr is under way -/
theorem pe_callG (F : FnG X.prog X.w X.K X.mg X.base CX k f fd ps sp) (gd : X.A.guards = some []) (room : Room k X.A) (hg : Gl X x) (hm : X.mg x = some (.ref f))
    (hk : PySem.W.keepIn X.K (.ref f) = true) (bnd : Binds X.K fd ps []) (pass : Passes CX X E) (ha : PA X (e :: es) t)
    (a1 : (x == ("__debug__" : Str)) = false := by decide) (a2 : starEach (e :: es) X.env = (false, eval e X.env) :: starEach es X.env := by rfl)
    (a3 : (backTo pos (starEach es X.env)).any (fun z => z.1) = false := by rfl) :
    PE X (.Call (.Name x p) (e :: es) [] pos) (tCall sp [] E t) := by
  refine ⟨fun pins s σ H Q I h => wpAny_Call_Name_kw (ld_glob I hg hm ?_ a1)⟩
  refine PySem.W.callWith_K (h₀ := X.base) I.ok.mod.kin hk (thn (ha.run pos pins s σ H _ I h) fun us s1 z => ?_) a2 a3
  obtain ⟨vs, H1, I1, r, q⟩ := z
  rw [List.append_nil] at q
  exact ⟨I1.kIn, run_G F gd room bnd pass I1 r q⟩
end
/-! ### the law's own end, where no repr is under way -/
def scriptObj (vs : List Value) : Obj := { cls := .type "list", data := .seq vs.toArray }
def scriptHp (K : PySem.W.Frag) (a : Addr) (vs : List Value) (ns : List Int) : Hp := fun b => if b = a ∧ K.lookup a = none then some (.frz (scriptObj vs) (.lst (ns.map V.int))) else none
section
variable {K : PySem.W.Frag} {a : Addr} {vs : List Value} {ns : List Int}
theorem scriptHp_only : Only (scriptHp K a vs ns) := fun b => by
  unfold scriptHp
  by_cases c : b = a ∧ K.lookup a = none
  · exact .inr ⟨_, _, if_pos c⟩
  · exact .inl (if_neg c)
theorem scriptHp_some {b : Addr} {u : HO} (h : scriptHp K a vs ns b = some u) : b = a ∧ K.lookup a = none ∧ u = .frz (scriptObj vs) (.lst (ns.map V.int)) := by
  unfold scriptHp at h
  by_cases c : b = a ∧ K.lookup a = none
  · rw [if_pos c] at h
    exact ⟨c.1, c.2, (Option.some.inj h).symm⟩
  · rw [if_neg c] at h
    cases h
theorem scriptHp_none {b : Addr} {o : Obj} {h : Heap} (ha : h.get? a = some (scriptObj vs)) (e : h.get? b = some o) (hd : ∀ its n, o.data ≠ .seq its n) : scriptHp K a vs ns b = none := by
  cases q : scriptHp K a vs ns b with
  | none => rfl
  | some u =>
    obtain ⟨rfl, _, _⟩ := scriptHp_some q
    rw [ha] at e
    cases e
    exact absurd rfl (hd vs.toArray _)
theorem lawG {l : PySem.W.OpenLaw} {n k : Nat} {q : Program} {loose : List Str} {XP : (Str → Option Value) → Heap → Prop} {YP : World → Heap → Prop} {d : DefRec} {K : Params → PySem.W.Frag} {sp : World → Sp} {x : Str}
    (hn : l.most = some n) (hn2 : n ≤ sizeLine) (hdf : d.params.defaults = []) (room : Room k callerA)
    (hY : ∀ (w : World) (h : Heap), YP w h → (K w.params).In h)
    (F : ∀ (w : World) (mg : Str → Option Value) (fa : Addr) (h : Heap), (K w.params).In h → h.Ns mainGlobals mg → mg d.name = some (.ref fa) →
      ∃ fd : FuncData, (∀ (s : Shared) (u : Value), BindsTo s fd ⟨[u], []⟩ [(x, u)]) ∧
        ∀ base : Heap, (K w.params).In base → base.Ns mainGlobals mg → FnG l.prog w (K w.params) mg base CX0 k fa fd [x] (sp w))
    (hsp : ∀ (w : World) (H : Hp) (a : Addr) (ns : List Int), ns.length ≤ n → Only H → SqL (K w.params) H a (ns.map V.int) → sp w [.ref a] H (fun v _ => v = .bl true) fun _ _ _ => False) :
    PySem.W.WalkO q loose XP YP l.row.toRowW d [] (fun f vs => PySem.call f vs) := by
  refine Att.attach_call hn hdf fun w s₀ s₁ mg mb fa o pm cd doc a vs ns G Y ho hd hcd hmg hobj hints hlen hgen => ?_
  have kin := hY w _ Y
  obtain ⟨fd, bnd, FF⟩ := F w mg fa _ kin G.T.g hmg
  have ha : s₁.heap.get? a = some (scriptObj vs) := hobj
  have short : ns.length ≤ sizeLine := Nat.le_trans hlen hn2
  have keep0 : ∀ {b : Addr} {o : Obj}, s₁.heap.get? b = some o → scriptHp (K w.params) a vs ns b = none → (hidT s₁.heap (scriptHp (K w.params) a vs ns)).get? b = some o := fun e z => hidT_get e z
  have nsK : ∀ {b : Addr} {m : Str → Option Value}, s₁.heap.Ns b m → (hidT s₁.heap (scriptHp (K w.params) a vs ns)).Ns b m := by
    rintro b m ⟨o, es, ep, e, dd, r⟩
    exact ⟨o, es, ep, keep0 e (scriptHp_none ha e fun its n z => by rw [dd] at z; cases z), dd, r⟩
  have kinB : (K w.params).In (hidT s₁.heap (scriptHp (K w.params) a vs ns)) := fun b o e => keep0 (kin b o e) (by
    cases z : scriptHp (K w.params) a vs ns b with
    | none => rfl
    | some u =>
      obtain ⟨rfl, z2, _⟩ := scriptHp_some z
      rw [z2] at e
      cases e)
  have hM : Mod (K w.params) mg (hidT s₁.heap (scriptHp (K w.params) a vs ns)) := by
    obtain ⟨mc, h1, h2⟩ := G.T.nolimit
    exact ⟨kinB, nsK G.T.g, ⟨mb, nsK G.T.b, G.T.builtins⟩, ⟨mc, nsK h1, h2⟩⟩
  have hok : HOk l.prog w (scriptHp (K w.params) a vs ns) s₁.heap := fun b u z => by
    obtain ⟨rfl, _, rfl⟩ := scriptHp_some z
    exact ⟨ha, by rw [List.length_map]; exact short, vs, _, vals_ints hints, ha⟩
  have hS : SqL (K w.params) (scriptHp (K w.params) a vs ns) a (ns.map V.int) := by
    cases hk : (K w.params).lookup a with
    | none => exact .inl (.inr ⟨scriptObj vs, if_pos ⟨rfl, hk⟩⟩)
    | some o =>
      have e := kin a o hk
      rw [ha] at e
      obtain rfl := Option.some.inj e
      exact .inr ⟨_, vs.toArray, _, hk, rfl, rfl, rfl, by rw [List.size_toArray, hints.length]; exact short, by simpa using vals_ints hints⟩
  have e0 : Env0 l.prog w (K w.params) mg (hidT s₁.heap (scriptHp (K w.params) a vs ns)) callerA [] s₁ (scriptHp (K w.params) a vs ns) :=
    ⟨rfl, hM, fun b o e => of_hidT e, Nat.le_of_eq (hidT_size _ _), trivial, fun b z => absurd (show b ∈ ([] : List Addr) from z) (by simp), hok, .of_eq hgen⟩
  refine codeAny_mono ((FF _ kinB (nsK G.T.g)).run callerA rfl [] s₁ _ ⟨[.ref a], []⟩ [.ref a] [.ref a] _ _ room e0 (bnd s₁ (.ref a)) (.cons rfl .nil) (hsp w _ a ns hlen scriptHp_only hS)) fun r s' got => ?_
  cases r with
  | error e => exact got.elim
  | ok fl =>
    cases fl with
    | next => exact got.elim
    | brk => exact got.elim
    | cont => exact got.elim
    | ret u =>
      obtain ⟨v, H', os, bare, un, hok', rv, z⟩ := got
      obtain rfl : v = .bl true := z
      obtain rfl : u = Value.bool true := rv
      refine ⟨rfl, OldK.of_keep fun b o e => ?_, os, bare⟩
      cases z : scriptHp (K w.params) a vs ns b with
      | none => exact un.keep b o e z (fun y => absurd (show b ∈ ([] : List Addr) from y) (by simp)) (by simp)
      | some u =>
        obtain ⟨_, _, rfl⟩ := scriptHp_some z
        have z2 := un.frzs b _ _ z
        obtain ⟨e1, _⟩ := hok b _ z
        obtain ⟨e2, _⟩ := hok' b _ z2
        rw [e] at e1
        obtain rfl := Option.some.inj e1
        exact e2
end
/-! ### repr of data -/
theorem Dp_ref {K : PySem.W.Frag} {H : Hp} {v : V} {d : PyData} (h : Dp K H v d) : (∃ a, v = .ref a) ∨ (v = .non ∧ d = .none) ∨ (∃ b, v = .bl b ∧ d = .bool b) ∨ (∃ i, v = .int i ∧ d = .int i) ∨ ∃ x, v = .str x ∧ d = .str x := by
  cases h with
  | non => exact .inr (.inl ⟨rfl, rfl⟩)
  | bl b => exact .inr (.inr (.inl ⟨b, rfl, rfl⟩))
  | int i => exact .inr (.inr (.inr (.inl ⟨i, rfl, rfl⟩)))
  | str x => exact .inr (.inr (.inr (.inr ⟨x, rfl, rfl⟩)))
  | lst _ _ => exact .inl ⟨_, rfl⟩
  | tup _ _ => exact .inl ⟨_, rfl⟩
/-- data that can be shown: not deeper than dp, not heavier than wt -/
structure Sh (dp wt : Nat) (d : PyData) : Prop where
  can : d.canLay0 = true
  dep : d.depth ≤ dp
  shw : d.showable = true
  lvs : d.leavesShort 200 = true
  wgt : d.weight ≤ wt
structure ShAll (dp wt : Nat) (ds : List PyData) : Prop where
  can : PyData.canLayAll0 ds = true
  dep : PyData.depthAll ds ≤ dp
  shw : PyData.showableAll ds = true
  lvs : PyData.leavesShortAll 200 ds = true
  wgt : PyData.weightAll ds ≤ wt
theorem Sh.mono {dp wt dp' wt' : Nat} {d : PyData} (h : Sh dp wt d) (h1 : dp ≤ dp') (h2 : wt ≤ wt') : Sh dp' wt' d := ⟨h.can, Nat.le_trans h.dep h1, h.shw, h.lvs, Nat.le_trans h.wgt h2⟩
theorem ShAll.mono {dp wt dp' wt' : Nat} {ds : List PyData} (h : ShAll dp wt ds) (h1 : dp ≤ dp') (h2 : wt ≤ wt') : ShAll dp' wt' ds := ⟨h.can, Nat.le_trans h.dep h1, h.shw, h.lvs, Nat.le_trans h.wgt h2⟩
theorem Sh.none : Sh 0 0 .none := ⟨rfl, Nat.le_refl _, rfl, rfl, Nat.le_refl _⟩
theorem Sh.bool (b : Bool) : Sh 0 0 (.bool b) := ⟨rfl, Nat.le_refl _, rfl, rfl, Nat.le_refl _⟩
theorem Sh.int {b : Nat} (h0 : 0 < b) (h6 : b ≤ 600) {i : Int} (h : i.natAbs < 2 ^ b) : Sh 0 b (.int i) := by
  have l2 := PySem.Flt.log2_lt_of h0 h
  refine ⟨rfl, Nat.le_refl _, decide_eq_true (by omega), decide_eq_true ?_, ?_⟩
  · have h1 : i.natAbs < 10 ^ 199 := Nat.lt_of_lt_of_le h (Nat.le_trans (Nat.pow_le_pow_right (by decide) h6) (by decide +kernel))
    have e := int_text_length_le10 (k := 199) (by decide) h1
    show (Str.ofString (toString i)).length ≤ 200
    rw [PySem.ofString_length]
    exact e
  · show (if i == 0 then 0 else i.natAbs.log2 + 1) ≤ b
    split <;> omega
theorem Sh.tup {dp wt : Nat} {ds : List PyData} (h : ShAll dp wt ds) : Sh (dp + 1) wt (.tuple ds) := ⟨h.can, Nat.add_le_add_right h.dep 1, h.shw, h.lvs, h.wgt⟩
theorem Sh.lst {dp wt : Nat} {ds : List PyData} (h : ShAll dp wt ds) : Sh (dp + 1) wt (.list ds) := ⟨h.can, Nat.add_le_add_right h.dep 1, h.shw, h.lvs, h.wgt⟩
theorem ShAll.nil : ShAll 0 0 [] := ⟨rfl, Nat.le_refl _, rfl, rfl, Nat.le_refl _⟩
theorem ShAll.cons {dp wt wt' : Nat} {d : PyData} {ds : List PyData} (h : Sh dp wt d) (t : ShAll dp wt' ds) : ShAll dp (wt + 1 + wt') (d :: ds) := by
  refine ⟨?_, Nat.max_le.mpr ⟨h.dep, t.dep⟩, ?_, ?_, ?_⟩
  · show (d.canLay0 && PyData.canLayAll0 ds) = true
    rw [h.can, t.can]
    rfl
  · show (d.showable && PyData.showableAll ds) = true
    rw [h.shw, t.shw]
    rfl
  · show (d.leavesShort 200 && PyData.leavesShortAll 200 ds) = true
    rw [h.lvs, t.lvs]
    rfl
  · show d.weight + 1 + PyData.weightAll ds ≤ wt + 1 + wt'
    have h1 := h.wgt
    have h2 := t.wgt
    omega
theorem ShAll.ints {b : Nat} (h0 : 0 < b) (h6 : b ≤ 600) : ∀ {ns : List Int}, (∀ x ∈ ns, x.natAbs < 2 ^ b) → ShAll 0 ((b + 1) * ns.length) (ns.map PyData.int)
  | [], _ => ShAll.nil
  | x :: r, h => by
    have h1 := ShAll.cons (Sh.int h0 h6 (h x List.mem_cons_self)) (ShAll.ints h0 h6 fun y hy => h y (List.mem_cons_of_mem _ hy))
    exact h1.mono (Nat.le_refl _) (by rw [List.length_cons, Nat.mul_succ]; omega)
theorem Sh.shaped {dp wt : Nat} {d : PyData} (h : Sh dp wt d) (h1 : dp ≤ 64) : SeqAt.shaped d = true := by
  unfold SeqAt.shaped
  rw [h.can]
  exact decide_eq_true (Nat.le_trans h.dep h1)
theorem Sh.fits {dp wt : Nat} {d : PyData} (h : Sh dp wt d) (h1 : wt ≤ 80000) : d.shown.length ≤ sizeLine := by
  have h2 := PyData.shown_le 200 (by decide) d h.lvs
  have h3 := h.wgt
  have h4 : (200 + 2) * d.weight ≤ 202 * 80000 := Nat.mul_le_mul (by omega) (by omega)
  have h5 : sizeLine = 16777216 := by decide
  omega
theorem dp_ints {K : PySem.W.Frag} {H : Hp} : ∀ ns : List Int, DpAll K H (ns.map V.int) (ns.map PyData.int)
  | [] => .nil
  | n :: r => .cons (.int n) (dp_ints r)
theorem eqvAll_ints : ∀ ns : List Int, PyData.eqvAll (ns.map PyData.int) (ns.map PyData.int) = true
  | [] => rfl
  | n :: r => by
    show (PyData.eqv (.int n) (.int n) && PyData.eqvAll (r.map PyData.int) (r.map PyData.int)) = true
    rw [eqvAll_ints r]
    show ((n == n) && true) = true
    rw [beq_self_eq_true]
    rfl
section
variable {X : Cx}
/-- repr(x), x data: its text -/
theorem call_reprD (gd : X.A.guards = some []) (hu : X.A.units + 66 < cLine) : CallR X (.builtin "repr") (fun xs H Q => ∃ v d, xs = [v] ∧ Dp X.K H v d ∧ Sh 60 80000 d ∧ Q (.str d.shown) H) := by
  intro pins s σ H xs us Q I r h
  obtain ⟨v, d, rfl, hD, hd, q⟩ := h
  have hsh := hd.shaped (by decide)
  have hsz := hd.fits (by decide)
  obtain ⟨u, rfl, ru⟩ := vals1 r
  rcases Dp_ref hD with ⟨a, rfl⟩ | ⟨rfl, rfl⟩ | ⟨b, rfl, rfl⟩ | ⟨i, rfl, rfl⟩ | ⟨x, rfl, rfl⟩
  · obtain rfl : u = Value.ref a := ru
    obtain ⟨as, rd⟩ := Dp.reads I d _ _ hD rfl
    have hdp := hd.dep
    refine repr_of_reads' rd hd.shw (PyData.noDict_hsm (PyData.hasDict_of_canLay d hd.can)) gd (by omega) (fun _ _ e => e) (fun h' u tk hk => ?_) hsz
    exact ⟨.str _, H, I.kept hk, ⟨u, rfl⟩, q⟩
  · obtain rfl : u = Value.none := ru
    exact P.repr_of_none ⟨.str _, H, I.tok _, ⟨_, rfl⟩, q⟩
  · obtain rfl : u = Value.bool b := ru
    exact P.repr_of_bool ⟨.str _, H, I.tok _, ⟨_, rfl⟩, q⟩
  · obtain ⟨t, rfl⟩ := ru
    exact P.repr_of_int (of_decide_eq_true hd.shw) ⟨.str _, H, I.tok _, ⟨_, rfl⟩, q⟩
  · obtain ⟨t, rfl⟩ := ru
    exact P.repr_of_str ⟨.str _, H, I.tok _, ⟨_, rfl⟩, q⟩ hsz
/-- a ** b of greater numbers -/
theorem op_powB : OpR X (binaryOp .Pow) (rI (fun i j => 0 ≤ j ∧ (Builtin.Int.intBits i : Int) * j ≤ 2 ^ 27) fun i j => .int (i ^ j.toNat)) := opI fun _ _ _ _ _ _ _ hc q => pow_int hc.1 hc.2 q
/-- set(t), t a tuple of ints -/
theorem cr_setT (hc : X.calm = true) : CallR X (.type "set") (fun xs H Q => ∃ (l : Addr) (ns : List Int), xs = [.ref l] ∧ SqT X.K H l (ns.map V.int) ∧ ns.length ≤ 1000 ∧
    ∀ (p : Addr) (c : Nat), H p = none → Q (.ref p) (upd H p (SetO X.w p (fun j => decide (j ∈ ns)) c))) := by
  intro pins s σ H xs us Q I r h
  obtain ⟨l, ns, rfl, hq, hl, q⟩ := h
  obtain ⟨u, rfl, ru⟩ := vals1 r
  obtain rfl : u = Value.ref l := ru
  obtain ⟨its, rv, pt, hz⟩ := I.tuple hq
  refine call_set_tupI ns (I.ok.hd hc) (show s.heap.IsTuple l its.toArray from pt) (ints_of_vals rv) (by unfold scanBound; omega) fun h' tk c R1 hcn k => ?_
  exact ⟨.ref _, _, I.laid (t' := tk) k (Nat.le_refl _) (setO_new R1), rfl, q _ c (I.hok.fresh (Nat.le_refl _))⟩
end

/-! ### the same rules with the written part as a letter (for comprehensions) -/
section
variable {X : Cx} (K : PySem.W.Frag)
theorem ix_listK (h : X.K = K := by rfl) : IxR X (rIxL K) := h ▸ ix_list
theorem ix_tupK (h : X.K = K := by rfl) : IxR X (rIxT K) := h ▸ ix_tup
theorem op_inK (h : X.K = K := by rfl) : OpR X (compareOp .In) (rIn K false) := h ▸ op_in_seq
theorem op_notInK (h : X.K = K := by rfl) : OpR X (compareOp .NotIn) (rIn K true) := h ▸ op_notIn_seq
def rLenK (K : PySem.W.Frag) : List V → Hp → VK → Prop := fun xs H Q => ∃ p ys, xs = [.ref p] ∧ (SqL K H p ys ∨ SqT K H p ys) ∧ Q (.int ys.length) H
theorem call_lenK (h : X.K = K := by rfl) : CallR X (.builtin "len") (rLenK K) := h ▸ call_len_seq
def rReprK (K : PySem.W.Frag) : List V → Hp → VK → Prop := fun xs H Q => ∃ v d, xs = [v] ∧ Dp K H v d ∧ Sh 60 80000 d ∧ Q (.str d.shown) H
theorem call_reprK (gd : X.A.guards = some []) (hu : X.A.units + 66 < cLine) (h : X.K = K := by rfl) : CallR X (.builtin "repr") (rReprK K) := h ▸ call_reprD gd hu
theorem call_isiK1 (h : X.K = K := by rfl) : CallR X (.builtin "isinstance") (rIsi K) := h ▸ call_isi
def rTupleK (K : PySem.W.Frag) : List V → Hp → VK → Prop := fun xs H Q => ∃ p ys, xs = [.ref p] ∧ ((SqL K H p ys ∧ ∀ l, H l = none → Q (.ref l) (upd H l (.tup ys))) ∨ (SqT K H p ys ∧ Q (.ref p) H))
theorem call_tupleK (h : X.K = K := by rfl) : CallR X (.type "tuple") (rTupleK K) := h ▸ call_tuple_of
def rListK (K : PySem.W.Frag) : List V → Hp → VK → Prop := fun xs H Q => ∃ p ys, xs = [.ref p] ∧ (SqL K H p ys ∨ SqT K H p ys) ∧ ∀ l, H l = none → Q (.ref l) (upd H l (.lst ys))
theorem call_listK (h : X.K = K := by rfl) : CallR X (.type "list") (rListK K) := h ▸ call_list_of
theorem op_eqDK (hu : X.A.units + 64 < cLine) (h : X.K = K := by rfl) : OpR X (compareOp .Eq) (rEqD K) := h ▸ op_eqD hu
theorem op_neDK (hu : X.A.units + 64 < cLine) (h : X.K = K := by rfl) : OpR X (compareOp .NotEq) (rNeD K) := h ▸ op_neD hu
end
end Ef
namespace Ef
open PySem PySem.Spec PyProof.Rows L2
/-! ### tuples: sums, parts, the other way round -/
theorem Same.seqT {K : PySem.W.Frag} {H H' : Hp} {a : Addr} {xs : List V} (e : Same H H') (h : SqT K H a xs) : SqT K H' a xs := by
  rcases h with (h | ⟨o, h⟩) | h
  · exact .inl (.inl (e _ _ h))
  · exact .inl (.inr ⟨o, e _ _ h⟩)
  · exact .inr h
theorem But.seqT {K : PySem.W.Frag} {p a : Addr} {H H' : Hp} {xs : List V} (e : But p H H') (n : ∀ o, H p = some o → a = p → False) (h : SqT K H a xs) : SqT K H' a xs := by
  rcases h with (h | ⟨o, h⟩) | h
  · exact .inl (.inl (e _ _ (fun z => n _ (z ▸ h) z) h))
  · exact .inl (.inr ⟨o, e _ _ (fun z => n _ (z ▸ h) z) h⟩)
  · exact .inr h
/-- t + u -/
def rCatS (K : PySem.W.Frag) : R2 := fun x y H Q => ∃ a b xs ys, x = .ref a ∧ y = .ref b ∧ SqT K H a xs ∧ SqT K H b ys ∧ xs.length + ys.length ≤ sizeLine ∧ ∀ p H', Same H H' → SqT K H' p (xs ++ ys) → Q (.ref p) H'
/-- t[lo:hi] -/
def rSlS (K : PySem.W.Frag) : V → Option Int → Option Int → Hp → VK → Prop := fun x lo hi H Q => ∃ a xs, x = .ref a ∧ SqT K H a xs ∧ ∀ p H', Same H H' → SqT K H' p (cutV xs lo hi) → Q (.ref p) H'
theorem cut_whole {xs : List V} {lo hi : Option Int} (h : HT.sIx xs.length 0 lo = 0 ∧ HT.sIx xs.length xs.length hi = xs.length) : cutV xs lo hi = xs := by
  unfold cutV
  rw [h.1, h.2]
  show (xs.drop 0).take (xs.length - 0) = xs
  rw [List.drop_zero, Nat.sub_zero]
  exact List.take_length
section
variable {X : Cx} (K : PySem.W.Frag)
theorem op_catS (h : X.K = K := by rfl) : OpR X (binaryOp .Add) (rCatS K) := by
  subst h
  intro pins s σ H x y v u Q I rx ry h
  obtain ⟨a, b, xs, ys, rfl, rfl, ha, hb, hz, q⟩ := h
  refine op_catA pins s σ H _ _ v u Q I rx ry ⟨a, b, xs, ys, rfl, rfl, ha, hb, hz, fun z => ?_, fun _ z => ?_, fun _ _ p np => ?_⟩
  · subst z
    exact q b H (Same.refl H) hb
  · subst z
    refine q a H (Same.refl H) ?_
    rw [List.append_nil]
    exact ha
  · exact q p _ (same_new np) (SqT.of upd_same)
theorem sl_tupS (h : X.K = K := by rfl) : SlR X (rSlS K) := by
  subst h
  intro pins s σ H x v vl vu lo hi sl Q I rx hs pl pu h
  obtain ⟨a, xs, rfl, hx, q⟩ := h
  refine sl_tupA pins s σ H _ v vl vu lo hi sl Q I rx hs pl pu ⟨a, xs, rfl, hx, fun z => ?_, fun _ p np => ?_⟩
  · refine q a H (Same.refl H) ?_
    rw [cut_whole z]
    exact hx
  · exact q p _ (same_new np) (SqT.of upd_same)
end
theorem fm_congr {α β : Type} {f g : α → Option β} : ∀ l : List α, (∀ x ∈ l, f x = g x) → l.filterMap f = l.filterMap g
  | [], _ => rfl
  | x :: r, h => by
    have h1 := h x List.mem_cons_self
    have h2 := fm_congr r fun y hy => h y (List.mem_cons_of_mem _ hy)
    cases e : f x with
    | none => rw [List.filterMap_cons_none e, List.filterMap_cons_none (h1 ▸ e), h2]
    | some b => rw [List.filterMap_cons_some e, List.filterMap_cons_some (h1 ▸ e), h2]
theorem range_pick {α : Type} : ∀ (n : Nat) (ys : List α), ys.length = n → (List.range n).filterMap (fun m => ys[m]?) = ys
  | 0, ys, h => by
    rw [List.length_eq_zero_iff.mp h]
    rfl
  | n + 1, ys, h => by
    have hne : ys ≠ [] := fun z => by
      rw [z] at h
      cases h
    have hl : ys.dropLast.length = n := by
      rw [List.length_dropLast]
      omega
    have e : ys = ys.dropLast ++ [ys.getLast hne] := (List.dropLast_concat_getLast hne).symm
    rw [List.range_succ, List.filterMap_append]
    have e1 : (List.range n).filterMap (fun m => ys[m]?) = ys.dropLast := by
      have e3 : (List.range n).filterMap (fun m => ys[m]?) = (List.range n).filterMap (fun m => ys.dropLast[m]?) := by
        refine fm_congr _ fun m hm => ?_
        have hm' : m < ys.dropLast.length := by
          rw [hl]
          exact List.mem_range.mp hm
        have e4 : (ys.dropLast ++ [ys.getLast hne])[m]? = ys.dropLast[m]? := List.getElem?_append_left hm'
        rw [← e4, List.dropLast_concat_getLast hne]
      rw [e3]
      exact range_pick n ys.dropLast hl
    have e2 : [n].filterMap (fun m => ys[m]?) = [ys.getLast hne] := by
      have : ys[n]? = some (ys.getLast hne) := by
        rw [List.getLast_eq_getElem hne, ← List.getElem?_eq_getElem]
        congr 1
        omega
      rw [List.filterMap_cons_some this]
      rfl
    rw [e1, e2]
    exact e.symm
theorem pick_back (xs : Array Value) : ((List.range xs.size).filterMap fun (m : Nat) => xs[(((xs.size : Int) - 1) + (m : Int) * (-1)).toNat]?).toArray = xs.toList.reverse.toArray := by
  congr 1
  have h : xs.toList.reverse.length = xs.size := by
    rw [List.length_reverse, Array.length_toList]
  rw [← range_pick xs.size xs.toList.reverse h]
  refine fm_congr _ fun m hm => ?_
  have hm' : m < xs.size := List.mem_range.mp hm
  have e : (((xs.size : Int) - 1) + (m : Int) * (-1)).toNat = xs.size - 1 - m := by omega
  rw [e, List.getElem?_reverse (by rw [Array.length_toList]; exact hm'), Array.length_toList, Array.getElem?_toList]
section
variable {prog : Program} {w : World} {A : Around} {E : Value → Shared → Prop} {s : Shared}
theorem tuple_back {t sl : Addr} {items : Array Value} {vl vu vs : Value} {Q : Value → Shared → Prop} (ht : IsTup s.heap t items) (hs : s.heap.IsSliceOf sl vl vu vs) (pl : PySem.IsPart vl none) (pu : PySem.IsPart vu none) (ps : PySem.IsPart vs (some (-1)))
    (h : Q (.ref s.heap.objs.size) { s with heap := s.heap.push { cls := .type "tuple", data := .seq items.toList.reverse.toArray } })
    (hsz : items.size ≤ sizeLine) : wpAny (model prog w) A (getItem (.ref t) (.ref sl)) Q E s := by
  have hfit : sizeOk (.seq items.toList.reverse.toArray) := by
    show items.toList.reverse.toArray.size ≤ sizeLine
    rw [List.size_toArray, List.length_reverse, Array.length_toList]
    exact hsz
  obtain ⟨os, hos, hcs, hds⟩ := id hs
  have tys : s.TypeIs (.ref sl) "slice" := ⟨os, hos, hcs⟩
  unfold getItem
  try with_reducible refine wpAny_holding ?_
  first | refine wpAny_bind (wpAny_pure ?_) | skip
  refine wpAny_bind (wpAny_sequenceKey ht.typeIs (by decide) ?_)
  refine wpAny_bind (wpAny_callSpecial?_slot (name := Str.ofString "__getitem__") ht.typeIs PyProof.Rows.slot_tuple_getitem
    (wpAny_call_entry PyProof.Rows.slot_tuple_getitem ht.typeIs PyProof.Rows.entry_tuple_getitem ?_ (PyProof.Rows.args_tuple_getitem _ _)))
  show wpAny _ _ (Builtin.Tuple.tupleItemsOf (.ref t) >>= _) _ _ s
  refine wpAny_bind (PyProof.Rows.tupleItemsOf_ ht ?_)
  refine wpAny_bind (wpAny_typeOf tys ?_)
  rw [if_pos (by decide)]
  have look : ∀ {B : Around} {E : Value → Shared → Prop} {R : Int × Int × Nat → Shared → Prop}, R (((items.size : Int) - 1), -1, items.size) s → wpAny (model prog w) B (Builtin.Slice.sliceApplied (.ref sl) (pure (items.size : Int))) R E s := fun {B E R} hR => by
    unfold Builtin.Slice.sliceApplied Builtin.Slice.sliceFields
    refine wpAny_bind (wpAny_bind (wpAny_field hos hds (x := vl) rfl (wpAny_bind (wpAny_field hos hds (x := vu) rfl (wpAny_bind (wpAny_field hos hds (x := vs) rfl (wpAny_pure ?_)))))))
    refine wpAny_bind (HT.slicePart_ ps ?_)
    show wpAny _ _ (if ((-1 : Int) == 0) = true then _ else _) _ _ s
    rw [if_neg (by decide)]
    refine wpAny_bind (HT.slicePart_ pl (wpAny_bind (HT.slicePart_ pu (wpAny_bind (wpAny_pure ?_)))))
    show wpAny _ _ (pure (((items.size : Int) - 1), (-1 : Int), Builtin.Slice.slicePlaces ((items.size : Int) - 1) (-1) (-1))) _ _ s
    have e : Builtin.Slice.slicePlaces ((items.size : Int) - 1) (-1) (-1) = items.size := by
      unfold Builtin.Slice.slicePlaces
      rw [if_neg (by decide)]
      by_cases c : ((items.size : Int) - 1) > -1
      · rw [if_pos c, show -(-1 : Int) = 1 from rfl, Int.ediv_one]
        omega
      · rw [if_neg c]
        omega
    rw [e]
    exact wpAny_pure hR
  refine wpAny_bind (look ?_)
  have no : ¬ ((((items.size : Int) - 1) == 0 && (-1 : Int) == 1 && items.size == items.size) = true) := by
    intro z
    rw [Bool.and_eq_true, Bool.and_eq_true] at z
    exact absurd z.1.2 (by decide)
  show wpAny _ _ (if (((items.size : Int) - 1) == 0 && (-1 : Int) == 1 && items.size == items.size) = true then _ else _) _ _ s
  rw [if_neg no, pick_back]
  first
    | exact wpAny_bind (m := Builtin.Tuple.tupleExact _) (wpAny_newObj_type (wpAny_pure ⟨_, rfl, wpAny_pure h⟩) hfit)
    | exact wpAny_bind (m := Builtin.Tuple.tupleExact _) (wpAny_newObj_type (wpAny_bind (wpAny_pure (wpAny_pure ⟨_, rfl, wpAny_pure h⟩))) hfit)
    | exact wpAny_bind (wpAny_bind (m := Builtin.Tuple.tupleExact _) (wpAny_newObj_type (wpAny_pure (wpAny_pure ⟨_, rfl, wpAny_pure h⟩)) hfit))
    | exact wpAny_bind (wpAny_bind (m := Builtin.Tuple.tupleExact _) (wpAny_newObj_type (wpAny_pure ⟨_, rfl, wpAny_pure h⟩) hfit))
end
/-! ### t[::-1] -/
def tRevT (K : PySem.W.Frag) (te : TE) : TE := fun σ H Q => te σ H fun x H1 => ∃ a xs, x = .ref a ∧ SqT K H1 a xs ∧ ∀ p, H1 p = none → Q (.ref p) (upd H1 p (.tup xs.reverse))
theorem pe_revT {X : Cx} {e : Expr} {te : TE} {k : Nat} {p1 p2 p3 pos : Pos} (he : PE X e te) : PE X (.Subscript e (.Slice none none (some (.UnaryOp .USub (.Constant (.int 1) k p1) p2)) p3) pos) (tRevT X.K te) := by
  refine ⟨fun pins s σ H Q I h => ?_⟩
  refine Subscript_ (thn (he.run pins s σ H _ I h) fun v s1 z1 => ?_)
  obtain ⟨x, H1, I1, r1, a, xs, ex, hx, q⟩ := z1
  subst ex
  cases r1
  have hst : PO X (some (.UnaryOp .USub (.Constant (.int 1) k p1) p2)) (tPart (tUn (rU fun i => .int (-i)) (tC (.int 1)))) := po_some (pe_un un_neg pe_int)
  refine wpAny_Slice (thn (po_none.run pins s1 σ H1 (fun o H2 => o = none ∧ H2 = H1) I1 ⟨rfl, rfl⟩) fun vl s2 z2 => ?_)
  obtain ⟨l, H2, I2, pl, rfl, rfl⟩ := z2
  refine thn (po_none.run pins s2 σ H2 (fun o H3 => o = none ∧ H3 = H2) I2 ⟨rfl, rfl⟩) fun vu s3 z3 => ?_
  obtain ⟨u, H3, I3, pu, rfl, rfl⟩ := z3
  refine thn (hst.run pins s3 σ H3 (fun o H4 => o = some (-1) ∧ H4 = H3) I3 ⟨1, rfl, -1, rfl, rfl, rfl⟩) fun vs s4 z4 => ?_
  obtain ⟨o, H4, I4, ps, rfl, rfl⟩ := z4
  have I5 : Inv X pins σ H4 { s4 with heap := s4.heap.push { cls := .type "slice", data := .fields #[vl, vu, vs] } } := I4.kept (t' := s4.toks) fun b ob z => Heap.get?_push_of_some _ z
  obtain ⟨its, r, ht, hz⟩ := I5.tuple hx
  show wpAny (model X.prog X.w) X.A (subscriptTail e (.Slice none none (some (.UnaryOp .USub (.Constant (.int 1) k p1) p2)) p3) (.ref a) (.ref s4.heap.objs.size)) (EP X pins σ Q) X.xe _
  refine tail_any (ops := [.ref a, .ref s4.heap.objs.size]) ht.typeIs (PyProof.Rows.slot_tuple_getitem.lookup) ?_ (by with_unfolding_all rfl)
  refine tuple_back ht (Heap.IsSliceOf.new _ vl vu vs) pl pu ps ?_ (by rw [List.size_toArray, ← r.length]; exact hz)
  refine ⟨.ref _, _, I5.laid (t' := s4.toks) (o := .tup xs.reverse) (fun b ob z => Heap.get?_push_of_some _ z) (Nat.le_refl _) ?_, rfl, q _ (I5.hok.fresh (Nat.le_refl _))⟩
  exact ⟨by rw [List.length_reverse]; exact hz, _, r.reverse, IsTup.new _ _⟩
end Ef
namespace Ef
open PySem PySem.Spec PyProof.Rows L2
/-! ### values of all sorts -/
mutual
theorem Dp.mono {K : PySem.W.Frag} {H H' : Hp} (s : Same H H') : ∀ {v : V} {d : PyData}, Dp K H v d → Dp K H' v d
  | _, _, .non => .non
  | _, _, .bl b => .bl b
  | _, _, .int i => .int i
  | _, _, .str x => .str x
  | _, _, .lst h t => .lst (s.seq h) (DpAll.mono s t)
  | _, _, .tup h t => .tup (Same.seqT s h) (DpAll.mono s t)
theorem DpAll.mono {K : PySem.W.Frag} {H H' : Hp} (s : Same H H') : ∀ {vs : List V} {ds : List PyData}, DpAll K H vs ds → DpAll K H' vs ds
  | _, _, .nil => .nil
  | _, _, .cons h t => .cons (Dp.mono s h) (DpAll.mono s t)
end
theorem DpAll.app {K : PySem.W.Frag} {H : Hp} : ∀ {xs ys : List V} {ds es : List PyData}, DpAll K H xs ds → DpAll K H ys es → DpAll K H (xs ++ ys) (ds ++ es)
  | _, _, _, _, .nil, t => t
  | _, _, _, _, .cons h r, t => .cons h (DpAll.app r t)
theorem dpAll_at {K : PySem.W.Frag} {H : Hp} : ∀ {xs : List V} {ds : List PyData}, DpAll K H xs ds → ∀ {i : Nat} {x : V}, xs[i]? = some x → ∃ d, ds[i]? = some d ∧ Dp K H x d
  | _, _, .nil, _, _, h => by cases h
  | _, _, .cons h _, 0, x, e => ⟨_, rfl, by rw [← Option.some.inj e]; exact h⟩
  | _, _, .cons _ t, i + 1, x, e => by
    rw [List.getElem?_cons_succ] at e ⊢
    exact dpAll_at t e
theorem dpAll_len {K : PySem.W.Frag} {H : Hp} : ∀ {xs : List V} {ds : List PyData}, DpAll K H xs ds → ds.length = xs.length
  | _, _, .nil => rfl
  | _, _, .cons _ t => congrArg (· + 1) (dpAll_len t)
theorem ShAll.app {dp w1 w2 : Nat} : ∀ {ds es : List PyData}, ShAll dp w1 ds → ShAll dp w2 es → ShAll dp (w1 + w2) (ds ++ es)
  | [], es, _, t => t.mono (Nat.le_refl _) (by omega)
  | d :: r, es, h, t => by
    have hc : (d.canLay0 && PyData.canLayAll0 r) = true := h.can
    have hs : (d.showable && PyData.showableAll r) = true := h.shw
    have hl : (d.leavesShort 200 && PyData.leavesShortAll 200 r) = true := h.lvs
    have hw : d.weight + 1 + PyData.weightAll r ≤ w1 := h.wgt
    have hd : max d.depth (PyData.depthAll r) ≤ dp := h.dep
    rw [Bool.and_eq_true] at hc hs hl
    rw [Nat.max_le] at hd
    have h1 : Sh dp d.weight d := ⟨hc.1, hd.1, hs.1, hl.1, Nat.le_refl _⟩
    have h2 : ShAll dp (PyData.weightAll r) r := ⟨hc.2, hd.2, hs.2, hl.2, Nat.le_refl _⟩
    exact (ShAll.cons h1 (ShAll.app h2 t)).mono (Nat.le_refl _) (by omega)
/-- all but what stands at p -/
def hide (p : Addr) (H : Hp) : Hp := fun b => if b = p then none else H b
theorem hide_ne {p b : Addr} {H : Hp} (n : b ≠ p) : hide p H b = H b := if_neg n
theorem hide_same (p : Addr) (H : Hp) : Same (hide p H) H := fun b o e => by
  by_cases c : b = p
  · unfold hide at e
    rw [if_pos c] at e
    cases e
  · rw [hide_ne c] at e
    exact e
theorem But.hide {p : Addr} {H H' : Hp} (s : But p H H') : Same (Ef.hide p H) (Ef.hide p H') := fun b o e => by
  by_cases c : b = p
  · unfold Ef.hide at e
    rw [if_pos c] at e
    cases e
  · rw [hide_ne c] at e ⊢
    exact s b o c e
theorem hide_lst {K : PySem.W.Frag} {p a : Addr} {H : Hp} {xs : List V} (n : a ≠ p) (h : H a = some (.lst xs)) : SqL K (hide p H) a xs := SqL.of (by rw [hide_ne n]; exact h)
theorem hide_tup {K : PySem.W.Frag} {p a : Addr} {H : Hp} {xs ys : List V} (hp : H p = some (.lst ys)) (h : SqT K H a xs) : SqT K (hide p H) a xs := by
  rcases h with (h | ⟨o, h⟩) | h
  · have n : a ≠ p := fun z => by
      rw [z, hp] at h
      cases h
    exact .inl (.inl (by rw [hide_ne n]; exact h))
  · have n : a ≠ p := fun z => by
      rw [z, hp] at h
      cases h
    exact .inl (.inr ⟨o, by rw [hide_ne n]; exact h⟩)
  · exact .inr h
/-- data, or an empty dict -/
def ItemV (K : PySem.W.Frag) (H : Hp) (v : V) (d : PyData) : Prop := (Dp K H v d ∧ Sh 60 80000 d) ∨ (d = .dict [] ∧ ∃ p, v = .ref p ∧ H p = some (.dK []))
theorem ItemV.mono {K : PySem.W.Frag} {H H' : Hp} {v : V} {d : PyData} (s : Same H H') (h : ItemV K H v d) : ItemV K H' v d := by
  rcases h with ⟨h, h2⟩ | ⟨e, p, e2, h⟩
  · exact .inl ⟨Dp.mono s h, h2⟩
  · exact .inr ⟨e, p, e2, s _ _ h⟩
def tyN : PyData → String
  | .none => "NoneType"
  | .bool _ => "bool"
  | .int _ => "int"
  | .str _ => "str"
  | .list _ => "list"
  | .tuple _ => "tuple"
  | .dict _ => "dict"
theorem Dp.ty {K : PySem.W.Frag} {H : Hp} {v : V} {d : PyData} (h : Dp K H v d) : TyX K H v (.type (tyN d)) := by
  cases h with
  | non => exact .base .non
  | bl b => exact .base (.bl b)
  | int i => exact .base (.int i)
  | str x => exact .base (.str x)
  | lst h _ =>
    rcases h with (h | ⟨o, h⟩) | ⟨o, its, n, h1, h2, _⟩
    · exact .base (.lst h)
    · exact .base (.frz h)
    · exact .kList h1 h2
  | tup h _ =>
    rcases h with (h | ⟨o, h⟩) | ⟨o, its, n, h1, h2, _⟩
    · exact .base (.tup h)
    · exact .fTuple h
    · exact .kTuple h1 h2
theorem ItemV.ty {K : PySem.W.Frag} {H : Hp} {v : V} {d : PyData} (h : ItemV K H v d) : TyX K H v (.type (tyN d)) := by
  rcases h with ⟨h, _⟩ | ⟨rfl, p, rfl, h⟩
  · exact Ef.Dp.ty h
  · exact .base (.dK h)
section
variable {X : Cx} (K : PySem.W.Frag)
def rReprI (K : PySem.W.Frag) : List V → Hp → VK → Prop := fun xs H Q => ∃ v d, xs = [v] ∧ ItemV K H v d ∧ Q (.str d.shown) H
theorem call_reprI (gd : X.A.guards = some []) (hu : X.A.units + 66 < cLine) (h : X.K = K := by rfl) : CallR X (.builtin "repr") (rReprI K) := by
  subst h
  intro pins s σ H xs us Q I r h
  obtain ⟨v, d, rfl, hI, q⟩ := h
  rcases hI with ⟨hD, hS⟩ | ⟨rfl, p, rfl, hp⟩
  · exact call_reprD gd hu pins s σ H _ us Q I r ⟨v, d, rfl, hD, hS, q⟩
  · obtain ⟨u, rfl, ru⟩ := vals1 r
    obtain rfl : u = Value.ref p := ru
    obtain ⟨_, hsys, vs, kv, o, es, ep, ho, hx, hd, hk, hpr, hn⟩ := dk_of I.hok hp
    have e1 : vs = [] := by
      cases kv
      rfl
    subst e1
    have e2 : es.toList = [] := by
      generalize es.toList = l at hpr ⊢
      cases hpr
      rfl
    have dep : PyData.depth (.dict []) ≤ 2 := by decide
    have rd : Reads s.heap (.ref p) (.dict []) (p :: [] ++ []) := by
      refine .dict ho hx.1 hd ?_ ?_
      · rw [e2]
        exact .nil
      · rw [e2]
        exact .nil
    refine repr_of_reads' rd rfl (fun _ hm => ?_) gd (by omega) (fun _ _ e => e) (fun h' u tk hk => ?_) (by decide +kernel)
    · have e3 : sysModules = p := by simpa using hm
      rw [← e3] at hsys
      exact absurd hsys (by simp)
    · exact ⟨.str _, H, I.kept hk, ⟨u, rfl⟩, q⟩
end
end Ef
set_option maxHeartbeats 4000000
namespace Ef
open PySem PySem.Spec PyProof.Rows L2
/-! ### sum of a list, of a tuple of whole numbers -/
theorem cr_sumK {X : Cx} (K : PySem.W.Frag) (hc : X.calm = true := by rfl) (h : X.K = K := by rfl) : CallR X (.builtin "sum") (rSum K) := by
  subst h
  exact cr_sum hc
def rSumT (K : PySem.W.Frag) : List V → Hp → VK → Prop := fun vs H Q => ∃ (a : Addr) (ns : List Int), vs = [V.ref a] ∧ SqT K H a (ns.map V.int) ∧ Q (.int ns.sum) H
theorem cr_sumT {X : Cx} (K : PySem.W.Frag) (hc : X.calm = true := by rfl) (h : X.K = K := by rfl) : CallR X (.builtin "sum") (rSumT K) := by
  subst h
  intro pins s σ H vs us Q I r h
  obtain ⟨a, ns, rfl, hs, q⟩ := h
  obtain ⟨its, rv, hl, _⟩ := I.tuple hs
  rw [Vals.ref1 r]
  have hi := rv.ints
  obtain ⟨xs, hx⟩ := hi.allInts.items
  have hn : numsOf its.toArray.toList = ns := by rw [show its.toArray.toList = its from rfl, hi.numsOf]
  rw [hx] at hl hn
  rw [nums_intItems] at hn
  refine PySem.W.ktm_sumG (I.ok.hd hc) hl fun h' tk t' hk => ?_
  rw [preSum_eq, List.take_of_length_le (by simp), hn]
  exact ⟨.int _, H, I.kept hk, ⟨_, rfl⟩, q⟩
end Ef
set_option maxHeartbeats 4000000
namespace Ef
open PySem PySem.Spec PyProof.Rows L2
/-! ### Base.__init__(self, ..) where Base is an own class without an __init__ of its own -/
section
variable {X : Cx} {e : Expr} {es : List Expr} {ta : TA} {x : Str} {p1 p2 pos : Pos} {B : Addr}
theorem pe_baseInit {pl : Sem Bool} (hg : Gl X x) (hm : X.mg x = some (.ref B))
    (h1 : PySem.W.specialIn X.K (.ref B) "__getattribute__" = some (some (.builtin "type.__getattribute__")))
    (h2 : PySem.W.typeIn X.K (.ref B) = some (.type "type")) (h3 : PySem.W.readsIn X.K B (.type "type") = true)
    (h4 : PySem.W.findCls X.K (.ref B) (.type "type") "__init__" = some (.val (.builtin "ValueError.__init__"))) (ha : PA X (e :: es) ta)
    (a1 : eval (.Call (.Attribute (.Name x p1) "__init__" p2) (e :: es) [] pos) X.env = (do
      let bv ← eval (.Name x p1) X.env
      standAt p2.atName
      let (g, first) ← holding [bv] (getMethod bv "__init__" pl)
      callWith pos g first (backTo pos (starEach (e :: es) X.env)) (backToKw pos (keywordEach [] X.env))) := by rfl)
    (a2 : starEach (e :: es) X.env = (false, eval e X.env) :: starEach es X.env := by rfl)
    (a3 : (backTo pos (starEach es X.env)).any (fun z => z.1) = false := by rfl) (a4 : (x == ("__debug__" : Str)) = false := by decide) :
    PE X (.Call (.Attribute (.Name x p1) "__init__" p2) (e :: es) [] pos) (tVeI X.K ta) := by
  refine ⟨fun pins s σ H Q I h => ?_⟩
  refine PySem.W.methodCall_KW (ld_glob I hg hm ?_ a4) a1
  obtain ⟨m, fr⟩ := I.fr
  refine PySem.W.method_of_cls fr I.ok.mod.kin h1 ?_
  refine PySem.W.cls_val fr I.ok.mod.kin h2 h3 h4 (by decide +kernel) ?_
  show wpAny _ _ (callWith pos (Value.builtin "ValueError.__init__") [] (backTo pos (starEach (e :: es) X.env)) []) _ _ _
  refine PyProof.Rows.callWith_method1 (thn (ha.run pos pins _ σ H _ (I.tok _) h) fun us s1 got => ?_) a2 a3
  obtain ⟨vs, H1, I1, r1, a, C, ws, rfl, hl, T, ea, q⟩ := got
  cases r1 with
  | @cons _ u0 _ ur ra rest =>
    obtain rfl : u0 = Value.ref a := ra
    refine oinit_ok T I1 ea ?_ fun s' J => ⟨.non, H1, J, rfl, q⟩
    have hl2 := Paired.length rest
    rw [sizeLine_eq]
    omega
end
/-! ### an exception that is kept as a value -/
/-- at a: an exception of the class cls, its dict at d -/
def exk (a : Addr) (cls : Value) (d : Option Addr) : HO := .ext fun h => ∃ oe vs, h.get? a = some oe ∧ oe.cls = cls ∧ oe.dict = d ∧ oe.data = .fields vs
theorem exk_ok {P : Program} {w : World} {H : Hp} {h : Heap} {a : Addr} {cls : Value} {d : Option Addr} {oe : Obj} {vs : Array Value} (he : h.get? a = some oe) (hc : oe.cls = cls) (hd : oe.dict = d) (hv : oe.data = .fields vs) : ObjOk P w H h a (exk a cls d) :=
  ⟨⟨oe, vs, he, hc, hd, hv⟩, ⟨oe, he⟩, fun h1 h2 z k => by
    obtain ⟨o, v, z1, z2⟩ := z
    exact ⟨o, v, k _ z1, z2⟩⟩
theorem exk_at {P : Program} {w : World} {H : Hp} {h : Heap} {a : Addr} {cls : Value} {d : Option Addr} (hok : HOk P w H h) (e : H a = some (exk a cls d)) : ∃ oe vs, h.get? a = some oe ∧ oe.cls = cls ∧ oe.dict = d ∧ oe.data = .fields vs := by
  have z : ObjOk P w H h a (.ext fun h => ∃ oe vs, h.get? a = some oe ∧ oe.cls = cls ∧ oe.dict = d ∧ oe.data = .fields vs) := hok a _ e
  exact z.1
theorem Inv_track {X : Cx} {pins : List (Addr × Obj)} {σ : L2.St} {H : Hp} {s : Shared} {a : Addr} {oe : Obj} {vs : Array Value} {cls : Value} {d : Option Addr} (I : L2.Inv X ((a, oe) :: pins) σ H s)
    (hc : oe.cls = cls) (hd : oe.dict = d) (hv : oe.data = .fields vs) (new : X.s_0.heap.get? a = none) (hp : ∀ p ∈ X.pn ++ pins, p.1 ≠ a) : L2.Inv X pins σ (upd H a (exk a cls d)) s := by
  obtain ⟨ha, na, nL, nF, nc⟩ := I.pin (a, oe) (List.mem_append_right _ List.mem_cons_self)
  have kp : ∀ {b : Addr} {u : HO}, H b = some u → upd H a (exk a cls d) b = some u := fun {b u} z => by
    rw [upd_ne (ne_of_none z na)]
    exact z
  refine ⟨I.ok, I.os, I.bare, ⟨I.base.keep, I.base.slot, fun b o z n hx => ?_, I.base.there, fun b xs z => kp (I.base.tups b xs z), fun b o u z => kp (I.base.frzs b o u z), fun b ps z => ?_⟩, I.loc, I.cell, ?_, fun y c z => ?_, fun p q => ?_, fun b o z => ?_, I.len⟩
  · rw [upd_ne (fun y => by rw [y, new] at z; cases z)]
    exact I.base.free b o z n hx
  · obtain ⟨more, z2⟩ := I.base.tbls b ps z
    exact ⟨more, kp z2⟩
  · rw [upd_ne nL.symm]
    exact I.free
  · have nca : c ≠ a := fun y2 => by
      obtain ⟨v, oc, z3, z4⟩ := I.cell y c z
      rw [y2, ha] at z3
      obtain rfl := Option.some.inj z3
      first
        | exact nc _ z4
        | exact nc _ z4.2
        | exact nc _ z4.1
    rw [upd_ne nca]
    exact I.freeC y c z
  · obtain ⟨z1, z2, z3, z4, z5⟩ := I.pin p (by
      rcases List.mem_append.mp q with q | q
      · exact List.mem_append_left _ q
      · exact List.mem_append_right _ (List.mem_cons_of_mem _ q))
    exact ⟨z1, by rw [upd_ne (hp p q)]; exact z2, z3, z4, z5⟩
  · by_cases hb : b = a
    · subst hb
      rw [upd_same] at z
      obtain rfl := Option.some.inj z
      exact exk_ok ha hc hd hv
    · rw [upd_ne hb] at z
      exact (I.hok b o z).stay (fun _ _ _ y => y) (fun c y => kp y) fun c xs y => kp y
/-- what 'except x as n: suite' wishes of an exception of the body, the exception being kept: slot i is n's -/
def wKeep (K : PySem.W.Frag) (c : Value) (i : Nat) (ts : Addr → Value → Option Addr → TS) (Wout : WX) (D : Ends) : WX := fun cls d σ H =>
  ∃ b, PySem.W.exmOne K cls c = some b ∧ (b = true → ∀ a, H a = none → ts a cls d { nx := fun σ' H' => D.nx (σ'.set i none) (upd H' a (exk a cls d)), rt := fun _ _ => False } (σ.set i (some (.ref a))) H) ∧
    (b = false → Wout cls d σ H)
section
variable {X : Cx} {x n : Str} {c : Value} {i : Nat} {body suite : List Stmt} {b₀ : Stmt} {np pos pos' : Pos} {tb : WX → TS} {ts : Addr → Value → Option Addr → TS} {Wout : WX}
theorem ps_try_keep (stk : X.stack = X.env :: X.outer) (frm : X.env.frame = some X.env.locals) (hex : X.ex = []) (hN : X.N.Nodup) (hi : X.N[i]? = some n) (hln : X.env.kindOf n = some .local) (nm : Names X x c) (tk : Takes X Wout)
    (hb : ∀ (W : WX) (pn : List (Addr × Obj)) (xe : Value → Shared → Prop), Takes (X.tr pn xe) W → PassesOwn (model X.prog X.w) X.A X.env xe → PSs (X.tr pn xe) body (tb W))
    (hsu : ∀ (a : Addr) (oe : Obj) (cls : Value) (d : Option Addr) (pn : List (Addr × Obj)), Zc cls d oe → (∃ vs, oe.data = .fields vs) → PSs (X.suite a ((a, oe) :: pn)) (b₀ :: suite) (ts a cls d)) :
    PS X (.Try body [.ExceptHandler (some (.Name x np)) (some n) (b₀ :: suite) pos'] [] [] pos) (fun D σ H => tb (wKeep X.K c i ts Wout D) D σ H) := by
  refine ⟨fun pins s σ H D I wish => ?_⟩
  have okX := I.ok
  have frs1 : X.A.frames = some (X.env :: X.outer) := by rw [okX.frames, stk]
  refine wpAny_Try_except ?_
  refine wpAny_mono ((hb (wKeep X.K c i ts Wout D) (X.pn ++ pins) (fun z s₁ => wpAny (model X.prog X.w) X.A (noteFrame z X.env) (fun _ s₂ => wpAny (model X.prog X.w) X.A (setFlight z none) (fun _ s₃ =>
    wpAny (model X.prog X.w) X.A (handleBy z X.env [.ExceptHandler (some (.Name x np)) (some n) (b₀ :: suite) pos']) (SP X pins D) X.xe s₃) X.xe s₂) X.xe s₁) (fun u s' air => ?_) PassesOwn.looking).run [] s σ H D (I.toTry _) wish) (fun fl s1 got => ?_) (fun z s1 got => got)
  · obtain ⟨a, B, sI, pins', σ', H', cls, d, rfl, J', nb, up, sky, na, os, ag, b, hb1, hyes, hno⟩ := air
    have J : L2.Inv X pins σ' H' sI := J'.ofTry okX
    have sky1 : Sky B (X.env :: X.outer) a (Zc cls d) X.env.locals s'.heap := by rw [← stk]; exact sky
    show wpAny (model X.prog X.w) X.A (noteFrame (.ref a) X.env) _ _ _
    refine Sky.land Zc.steady frs1 frm sky1 fun h3 fl3 up3 => ?_
    have J3 : L2.Inv X pins σ' H' { s' with heap := h3 } := J.landed nb fl3.1 (up.trans up3) os ag
    obtain ⟨oe3, vs3, he3, hz3, hd3⟩ := fl3.there
    have nfr : a ∉ frs (X.env :: X.outer) := fun hm => by
      obtain ⟨_, o', e', hnf⟩ := fl3.2.2.1.mem hm
      rw [he3] at e'
      cases e'
      exact hnf _ hd3
    have nL : a ≠ X.env.locals := fun z => nfr (List.mem_filterMap.mpr ⟨X.env, List.mem_cons_self, by rw [frm, z]⟩)
    have nF : a ∉ X.fs := fun hm => by
      obtain ⟨en, hen, y⟩ := List.mem_filterMap.mp hm
      exact nfr (List.mem_filterMap.mpr ⟨en, List.mem_cons_of_mem _ hen, y⟩)
    have newI : ∀ o, sI.heap.get? a = some o → False := fun o y => by
      have y2 := nb a o y (by rw [stk]; exact nfr)
      rw [fl3.2.1] at y2
      cases y2
    have new0 : X.s_0.heap.get? a = none := by
      cases y : X.s_0.heap.get? a with
      | none => rfl
      | some o =>
        obtain ⟨o', y2⟩ := J.base.there a o y (by rw [hex]; exact List.not_mem_nil)
        exact (newI o' y2).elim
    have apart : ∀ p ∈ X.pn ++ pins, p.1 ≠ a := fun p hp y => newI p.2 (by rw [← y]; exact (J.pin p hp).1)
    have S3 := J3.suite he3 hd3 na nL nF
    refine wpAny_handleBy_cons (codeAny_handlers_test ?_) (by intro y; cases y)
    have LT : PySem.W.Looks (model X.prog X.w) h3 (typeOf (.ref a)) cls := fun A Q E s k y => wpAny_typeOf_ref (k _ _ he3) (by rw [hz3.1]; exact y)
    have LM := PySem.W.exm_one (M := model X.prog X.w) (J3.kIn) LT hb1
    have asked : ∀ {Q : Value → Shared → Prop} {E : Value → Shared → Prop}, Q c { s' with heap := h3 } → wpAny (model X.prog X.w) (X.A.mark (some (.ref a))) (eval (.Name x np) X.env) Q E { s' with heap := h3 } := fun {Q E} y => by
      obtain ⟨hg, hdbg, hm | ⟨hm, hv, hnn⟩⟩ := nm
      · exact ld_glob (X := X.suite a ((a, oe3) :: (X.pn ++ pins))) S3 hg hm y hdbg
      · exact ld_blt (X := X.suite a ((a, oe3) :: (X.pn ++ pins))) S3 hg hm hv y hnn hdbg
    refine asked (LM.here ?_)
    cases b with
    | true =>
      refine codeAny_handlers_suite_as ?_
      refine HandSPX.lands_againZ fl3 fun h4 fl4 up4 => ?_
      have J4 : L2.Inv X pins σ' H' { s' with heap := h4 } := J.landed nb fl4.1 ((up.trans up3).trans up4) os ag
      obtain ⟨oe4, vs4, he4, hz4, hd4⟩ := fl4.there
      have S4 := J4.suite he4 hd4 na nL nF
      refine store_ok (X := X.suite a ((a, oe4) :: (X.pn ++ pins))) (v := .ref a) S4 hN hi (.inl hln) rfl (fun s5 S5 => ?_) (.inr hln)
      refine wpAny_mono ((hsu a oe4 cls d (X.pn ++ pins) hz4 ⟨_, hd4⟩).run [] s5 _ H' _ S5 (hyes rfl a na)) (fun fl s6 got => ?_) (fun _ _ y => False.elim y)
      cases fl with
      | next =>
        obtain ⟨σ6, H6, S6, q6⟩ := got
        have P6 := S6.pin (a, oe4) (List.mem_append_left _ List.mem_cons_self)
        have J6 : L2.Inv X ((a, oe4) :: pins) σ6 H6 s6 := (S6.unsuite okX).pins_of fun p hp => by
          rcases List.mem_cons.mp hp with rfl | hp
          · exact P6
          · exact (S6.unsuite okX).pin p (List.mem_append_right _ hp)
        exact gone_ok J6 hN hi hln fun s7 J7 => ⟨_, _, Inv_track J7 hz4.1 hz4.2 hd4 new0 apart, q6⟩
      | brk =>
        obtain ⟨σ6, H6, S6, q6⟩ := got
        exact q6.elim
      | cont =>
        obtain ⟨σ6, H6, S6, q6⟩ := got
        exact q6.elim
      | ret u =>
        obtain ⟨v6, σ6, H6, S6, r6, q6⟩ := got
        exact q6.elim
    | false =>
      show wpAny _ X.A (handleBy (.ref a) X.env []) _ _ _
      refine wpAny_handleBy_nil ?_
      obtain ⟨k1, k2, k3, oe, vs, T, oT, ts', he, hz, hd, h1, hr⟩ := id fl3
      unfold PySem.passOn
      refine wpAny_bind (wpAny_field he hd h1 ?_)
      rw [if_neg (show ¬ ((Value.ref T == Value.none) = true) from by simp)]
      have fin : wpAny (model X.prog X.w) X.A (setFlight (.ref a) X.env.frame) (fun _ s4 => wpAny (model X.prog X.w) X.A (throw (.ref a) : Sem Flow) (SP X pins D) X.xe s4) X.xe { s' with heap := h3 } := by
        rw [frm]
        refine HandSPX.setFlight_upZ fl3 fun h4 hh4 up4 => wpAny_throw (tk _ _ ?_)
        exact ⟨a, B, sI, pins, σ', H', cls, d, rfl, J, nb, (up.trans up3).trans up4, .inr (.inr (by rw [stk]; exact hh4)), na, os, ag, hno rfl⟩
      first
        | exact wpAny_bind (wpAny_pure (wpAny_bind fin))
        | exact wpAny_bind fin
  · cases fl with
    | next =>
      obtain ⟨σ', H', J', q⟩ := got
      exact wpAny_execs_nil ⟨σ', H', J'.ofTry okX, q⟩
    | brk =>
      obtain ⟨σ', H', J', q⟩ := got
      exact ⟨σ', H', J'.ofTry okX, q⟩
    | cont =>
      obtain ⟨σ', H', J', q⟩ := got
      exact ⟨σ', H', J'.ofTry okX, q⟩
    | ret u =>
      obtain ⟨v, σ', H', J', r, q⟩ := got
      exact ⟨v, σ', H', J'.ofTry okX, r, q⟩
end
theorem takesF {X : Cx} : Takes X (fun _ _ _ _ => False) := fun _ _ x => by
  obtain ⟨_, _, _, _, _, _, _, _, _, _, _, _, _, _, _, _, z⟩ := x
  exact z.elim
theorem passF {X : Cx} : Passes (L2.CX X.prog X.w) X (fun _ _ _ => False) := fun _ _ _ _ _ _ _ x => by
  obtain ⟨_, _, _, _, _, _, _, _, _, _, _, _, z⟩ := x
  exact z.elim
/-! ### what is asked of an exception that was kept -/
section
open PySem.W PySem.Calls
variable {prog : Program} {w : World} {A : Around} {E : Value → Shared → Prop} {s : Shared} {K : PySem.W.Frag} {y D : Addr} {oy : Obj} {od : Option Obj}
theorem class_of_exc {Q : Option Value → Shared → Prop} (T : ExcC K D) (kin : K.In s.heap) (I : InstAt s.heap y oy D od) (hod : od.isSome = true) (h : Q (some (.ref D)) { s with toks := s.toks + 1 }) :
    wpAny (model prog w) A (getAttr? (.ref y) "__class__") Q E s := by
  obtain ⟨oo, rfl⟩ := Option.isSome_iff_exists.mp hod
  have ff : findObj K D (some oo) "__class__" = some (.bind (.builtin "getset_descriptor.__get__") (.builtin "object.__class__")) := findObj_data (by obtain ⟨cd, hc, _⟩ := any_some T.hd; rw [hc]; rfl) T.ha T.hn T.ht
  obtain ⟨hp, g, d, t, os⟩ := s
  have T0 := I.type (M := model prog w)
  have T1 := looks_findIn (M := model prog w) kin T.hg
  have T2 := looks_findIn (M := model prog w) kin T.hk
  have T3 := looks_find (M := model prog w) kin I ff
  have inB : Looks (model prog w) hp (isInstance (.ref y) (.type "BaseException")) true := T0.andThen (looks_subIn kin T.hs)
  have b0 : (false && onTheHeap (Value.builtin "BaseException.__getattribute__")) = false := rfl
  have b2 : (Value.builtin "BaseException.__getattribute__" == Value.builtin "object.__getattribute__") = false := by decide +kernel
  have b1 : (onTheHeap (Value.ref D) && Value.builtin "BaseException.__getattribute__" == Value.builtin "object.__getattribute__") = false := by rw [b2]; rfl
  unfold getAttr? getAttrBy? getAttrBy
  refine wpAny_bind (wpAny_mkText (wpAny_bind (wpAny_attempt (wpAny_holding (wpAny_bind (T0.at (wpAny_bind (T1.at ?_))))))))
  show wpAny _ _ (if (onTheHeap (Value.ref D) && Value.builtin "BaseException.__getattribute__" == Value.builtin "object.__getattribute__") = true then _ else _) _ _ ⟨hp, g, d, t + 1, os⟩
  rw [b1, if_neg Bool.false_ne_true]
  unfold getAttrByItsOwn hookBefore
  refine wpAny_bind ?_
  rw [if_pos (show onTheHeap (Value.ref D) = true from rfl)]
  refine T2.at ?_
  refine wpAny_bind (wpAny_attempt (wpAny_holding ?_))
  unfold callGetattribute
  rw [b0, if_neg Bool.false_ne_true]
  unfold boundAndCalled
  rw [PySem.F.excAttr_ValueError.ga.bind (.ref y)]
  refine wpAny_bind (wpAny_pure ?_)
  show wpAny _ _ (call (.builtin "BaseException.__getattribute__") [.ref y, .str "__class__" t]) _ _ _
  refine wpAny_call (codeAny_call_builtin PySem.F.excAttr_ValueError.ga.plain PySem.F.entry_bexc_ga ?_)
  refine @check_slot (model prog w) _ _ ⟨hp, g, d, t + 1, os⟩ "BaseException.__getattribute__" "BaseException" "__getattribute__" (.ref y) [.str "__class__" t] [] _ (by decide +kernel) (by decide +kernel) inB (PySem.F.args_bexc_ga (.ref y) (.str "__class__" t)) ?_
  unfold Builtin.«object.__getattribute__»
  refine wpAny_bind (wpAny_of_eq (a := ((Value.ref y : Value), [Value.str "__class__" t])) (by first | rfl | (simp only [slotArgs]; rfl)) ?_)
  refine wpAny_bind (wpAny_pure (wpAny_bind (T0.at (wpAny_bind (T3.at ?_)))))
  show wpAny _ _ (holding [Value.builtin "object.__class__"] (call (.builtin "getset_descriptor.__get__") [.builtin "object.__class__", .ref y, .ref D]) >>= ret) _ _ ⟨hp, g, d, t + 1, os⟩
  refine wpAny_bind (wpAny_holding (wpAny_call (class_get (s := ⟨hp, g, d, t + 1, os⟩) (ox := oy) (od := some oo) kin I T.hm ?_)))
  refine wpAny_pure ?_
  show wpAny _ _ (handedOut (.ref D)) _ _ ⟨hp, g, d, t + 1, os⟩
  rw [handedOut_of (v := .ref D) rfl]
  first
    | exact wpAny_pure (wpAny_pure h)
    | exact wpAny_pure h
    | exact wpAny_pure (wpAny_bind (wpAny_pure (wpAny_pure h)))
theorem kit_kept (T : ExcC K D) : KitX K (.ref y) (.ref D) (fun h => ∃ oy oo, InstAt h y oy D (some oo)) where
  ty := fun _ _ _ I => by
    obtain ⟨_, _, I⟩ := I
    exact I.type
  it := fun _ _ kin _ => by
    obtain ⟨cd, hc, _⟩ := any_some T.hd
    unfold clsIn at hc
    split at hc
    · rename_i c' d' cd' sl' ho
      intro A' Q' E' s' k q
      unfold isType loadHead
      exact wpAny_bind (wpAny_loadPart (k _ _ (kin _ _ ho)) (wpAny_pure q))
    · cases hc
  ne := fun h tp dd its n sl kin htp => by
    obtain ⟨cd, hc, _⟩ := any_some T.hd
    refine Bool.eq_false_iff.mpr fun q => ?_
    obtain rfl : D = tp := Value.ref.inj (beq_iff_eq.mp q)
    unfold clsIn at hc
    split at hc
    · rename_i c' d' cd' sl' ho
      have z := (kin _ _ ho).symm.trans htp
      cases z
    · cases hc
  ca := fun kin I k => by
    obtain ⟨_, _, I⟩ := I
    exact class_of_exc T kin I rfl k
end
section
variable {X : Cx} {pins : List (Addr × Obj)} {σ : L2.St} {H : Hp} {s : Shared}
theorem kept_inst {a D d : Addr} {fs : List (Str × V)} (I : L2.Inv X pins σ H s) (e : H a = some (exk a (.ref D) (some d))) (ed : H d = some (.xd fs)) : ∃ oy oo, PySem.W.InstAt s.heap a oy D (some oo) ∧ ∃ mA : Str → Option Value, (∀ f, RelO (fs.lookup f) (mA f)) ∧ ∀ n, PySem.W.lookIn n oo = some (mA n) := by
  obtain ⟨oe, vs, h1, h2, h3, h4⟩ := exk_at I.hok e
  obtain ⟨mA, hns, hr⟩ := (show ObjOk X.prog X.w H s.heap d (.xd fs) from I.hok d _ ed)
  obtain ⟨oo, ho, hl⟩ := lookIn_ns hns
  exact ⟨oe, oo, ⟨h1, h2, by unfold PySem.W.notCls; rw [h4] <;> rfl, by rw [h3]; exact ho⟩, mA, hr, hl⟩
end
/-- isinstance(x, c), x an exception that was kept -/
def rIsX (K : PySem.W.Frag) : List V → Hp → VK → Prop := fun xs H Q => ∃ (a D d : Addr) (fs : List (Str × V)) (c : V) (u : Value) (b : Bool), xs = [.ref a, c] ∧ H a = some (exk a (.ref D) (some d)) ∧ H d = some (.xd fs) ∧ ExcC K D ∧ ClsV c u ∧ PySem.W.kitOne K (.ref D) u = some b ∧ Q (.bl b) H
/-- isinstance(x, (c1, ..)) -/
def rIsXT (K : PySem.W.Frag) : List V → Hp → VK → Prop := fun xs H Q => ∃ (a D d : Addr) (fs : List (Str × V)) (tp : Addr) (cs : List V) (us : List Value) (b : Bool), xs = [.ref a, .ref tp] ∧ H a = some (exk a (.ref D) (some d)) ∧ H d = some (.xd fs) ∧ ExcC K D ∧ H tp = some (.tup cs) ∧ Paired ClsV cs us ∧ PySem.W.kitAny K (.ref D) us = some b ∧ Q (.bl b) H
section
variable {X : Cx}
theorem call_isX : CallR X (.builtin "isinstance") (rIsX X.K) := by
  intro pins s σ H xs us Q I r h
  obtain ⟨a, D, d, fs, c, u, b, rfl, ea, ed, T, k, e, q⟩ := h
  obtain ⟨u1, u2, rfl, r1, r2⟩ := vals2 r
  obtain rfl := k.eq r2
  obtain rfl : u1 = Value.ref a := r1
  obtain ⟨oy, oo, J, _⟩ := kept_inst I ea ed
  exact PySem.W.kia_one (kit_kept T) I.kIn ⟨_, _, J⟩ e (fun z => nomatch z) fun tk => ⟨.bl b, H, I.tok tk, rfl, q⟩
theorem call_isXT : CallR X (.builtin "isinstance") (rIsXT X.K) := by
  intro pins s σ H xs us Q I r h
  obtain ⟨a, D, d, fs, tp, cs, ws, b, rfl, ea, ed, T, hT, k, e, q⟩ := h
  obtain ⟨u1, u2, rfl, r1, r2⟩ := vals2 r
  obtain rfl : u1 = Value.ref a := r1
  obtain rfl : u2 = Value.ref tp := r2
  obtain ⟨oy, oo, J, _⟩ := kept_inst I ea ed
  obtain ⟨_, its, rv, o, h1, h2, n, h3⟩ := (show ObjOk X.prog X.w H s.heap tp (.tup cs) from I.hok tp _ hT)
  obtain rfl := ClsV.all k rv
  obtain ⟨oc, odd, dt, sl⟩ := o
  simp only at h2 h3
  subst h2 h3
  exact PySem.W.kia_tup (kit_kept T) I.kIn ⟨_, _, J⟩ h1 e (fun z => nomatch z) fun tk => ⟨.bl b, H, I.tok tk, rfl, q⟩
/-- e.f, e an exception that was kept -/
def tFldX (K : PySem.W.Frag) (f : Str) (te : TE) : TE := fun σ H Q => te σ H fun x H1 => ∃ (a D d : Addr) (fs : List (Str × V)) (v : V), x = .ref a ∧ H1 a = some (exk a (.ref D) (some d)) ∧ H1 d = some (.xd fs) ∧ XfC K D ∧ PySem.W.findIn K (.ref D) f = some none ∧ fs.lookup f = some v ∧ Q v H1
theorem pe_fldX {e : Expr} {te : TE} {pos : Pos} {f : Str} (he : PE X e te) (hb : attributeBase e f X.env (eval e X.env) = eval e X.env := by rfl) : PE X (.Attribute e f pos) (tFldX X.K f te) := by
  refine ⟨fun pins s σ H Q I h => ?_⟩
  refine attr_of hb (thn (he.run pins s σ H _ I h) fun u s1 got => ?_)
  obtain ⟨x, H1, I1, rx, a, D, d, fs, v, rfl, ea, ed, T, hno, l, q⟩ := got
  obtain rfl : u = Value.ref a := rx
  obtain ⟨oy, oo, J, mA, hr, hl⟩ := kept_inst I1 ea ed
  obtain ⟨u, hu, ru⟩ := RelO.some_of (v := v) (o := mA f) (by rw [← l]; exact hr f)
  exact HandSPX.exc_get I1.kIn J T.ga T.gg T.exC (PySem.W.findObj_own T.hdC hno rfl (by rw [hl, hu])) (handed_of ru) ⟨v, H1, I1.tok _, ru, q⟩
end
/-! ### what the written part says of the program's error classes -/
structure BaseT (K : PySem.W.Frag) (B : Addr) : Prop where
  sp : PySem.W.specialIn K (.ref B) "__getattribute__" = some (some (.builtin "type.__getattribute__"))
  ty : PySem.W.typeIn K (.ref B) = some (.type "type")
  rd : PySem.W.readsIn K B (.type "type") = true
  fc : PySem.W.findCls K (.ref B) (.type "type") "__init__" = some (.val (.builtin "ValueError.__init__"))
structure ErrT (K : PySem.W.Frag) (C fI : Addr) (f : Str) (B : Addr) : Prop where
  ox : OexC K C
  xf : XfC K C
  ec : ExcC K C
  no : PySem.W.findIn K (.ref C) f = some none
  iC : PySem.W.findIn K (.ref C) "__init__" = some (some (.ref fI))
  tI : PySem.W.typeIn K (.ref fI) = some (.type "function")
  ex : PySem.W.exmOne K (.ref C) (.ref B) = some true
/-- an error's __init__: the base's, then the field -/
def spErr (K : PySem.W.Frag) (C : Addr) (f : Str) : Sp := fun vs H Q _ => ∃ (a : Addr) (v : V), vs = [.ref a, v] ∧ H a = some (exo a C none) ∧ ∀ dx, H dx = none → dx ≠ a → Q .non (upd (upd H dx (exd dx [(f, v)])) a (exo a C (some dx)))
/-- behind the raise: the error's dict, all else as it was -/
theorem err_end {H : Hp} {a C dx : Addr} {f : Str} {v : V} (na : H a = none) (nd : (upd H a (exo a C none)) dx = none) (ne : dx ≠ a) :
    let H2 := upd (upd (upd H a (exo a C none)) dx (exd dx [(f, v)])) a (exo a C (some dx))
    H2 a = some (exo a C (some dx)) ∧ H2 dx = some (exd dx [(f, v)]) ∧ H dx = none ∧ Same H (upd (del H2 a) dx (.xd [(f, v)])) ∧ (upd (del H2 a) dx (.xd [(f, v)])) dx = some (.xd [(f, v)]) := by
  have hd : H dx = none := by
    rw [upd_ne ne] at nd
    exact nd
  refine ⟨upd_same, by rw [upd_ne ne, upd_same], hd, fun b o z => ?_, upd_same⟩
  have n1 : b ≠ a := ne_of_none z na
  have n2 : b ≠ dx := ne_of_none z hd
  rw [upd_ne n2, del_ne n1, upd_ne n1, upd_ne n2, upd_ne n1]
  exact z
end Ef
set_option maxHeartbeats 4000000
namespace Ef
open PySem PySem.Spec PyProof.Rows L2
/-! ### a tuple times one is the tuple itself -/
theorem tuple_mul1 (l : Addr) (items : Array Value) (n : Nat) (dd : Option Addr) (sl : Array (Option Value)) (u : Tok) :
    Meets (Builtin.«tuple.__mul__» ⟨[.ref l, .int 1 u], []⟩) (fun _ R s => s.heap.get? l = some { cls := .type "tuple", dict := dd, data := .seq items n, slots := sl } ∧ R (.ok (.ret (Value.ref l))) s) :=
  .of_wp fun prog w A R s h => by
    obtain ⟨hp, g, d, tk, os⟩ := s
    obtain ⟨hl, h⟩ := h
    have f1 := AutoSeq1.idx_int
    have c0 : (decide ((1 : Int) < -(2 ^ 63)) || decide ((1 : Int) ≥ 2 ^ 63)) = false := by decide
    have c1 : (items.isEmpty || (1 : Int) == 1) = true := by rw [show ((1 : Int) == 1) = true from rfl, Bool.or_true]
    wp_walk using wpAny_loadPart' hl
    repeat (first
      | (refine wpAny_ite_false (decide_eq_false (by rw [c0]; exact Bool.false_ne_true)) ?_; wp_walk using wpAny_loadPart' hl)
      | (refine wpAny_ite_true (decide_eq_true c1) ?_; wp_walk using wpAny_loadPart' hl)
      | (refine wpAny_ite_true (decide_eq_true (by rfl)) ?_; wp_walk using wpAny_loadPart' hl))
    exact ⟨_, rfl, h⟩
/-- a tuple times a whole number from one to a thousand -/
def rRepT1 (K : PySem.W.Frag) : R2 := fun x y H Q => (∃ l xs, x = .ref l ∧ y = .int 1 ∧ SqT K H l xs ∧ Q (.ref l) H) ∨ rRepT K x y H Q
theorem op_repT1 {X : Cx} {K : PySem.W.Frag} (h : X.K = K := by rfl) : OpR X (binaryOp .Mult) (rRepT1 K) := by
  subst h
  rintro pins s σ H x y v u Q I rx ry (⟨l, xs, rfl, rfl, hT, q⟩ | h)
  · cases rx
    obtain ⟨t, rfl⟩ := ry
    obtain ⟨its, r, ⟨⟨cls, dd, data, sl⟩, ho, hc, n, hd⟩, hs⟩ := I.tuple hT
    simp only at hc hd
    subst hc hd
    refine wpAny_binaryOp_repeat_ref (T := "tuple") (U := "int") (by decide) ⟨_, ho, rfl⟩ (fun s' => typeIs_int s' 1 t) noFill_tuple_mul F.fills_int_mul F.slot_int_rmul repeat_tuple F.slot_int_index.lookup
      (call_meets F.slot_int_rmul (typeIs_int s 1 t) F.entry_int_rmul (F.args_int_rmul_2 _ _) (int_rmul_tuple 1 t l its.toArray n dd sl)
        ⟨ho, rfl, ⟨_, ho, rfl⟩, call_meets F.slot_tuple_mul ⟨_, ho, rfl⟩ F.entry_tuple_mul (F.args_tuple_mul_2 _ _) (tuple_mul1 l its.toArray n dd sl t) ⟨ho, ?_⟩⟩)
    exact ⟨.ref l, _, I, rfl, q⟩
  · exact op_repT pins s σ H x y v u Q I rx ry h
end Ef
set_option maxHeartbeats 4000000
namespace Ef
open PySem PySem.Spec PyProof.Rows L2
open Sem (wp)
/-! ### enumerate(tuple) -/
theorem meets_enumerate_newG {v : Value} {o : Obj} {H : Heap → Prop} (B : Begins v o H) :
    Meets (Builtin.«enumerate.__new__» ⟨[.type "enumerate", v], []⟩) (fun _ R s => H s.heap ∧
      R (.ok (.ret (.ref (s.heap.push o).objs.size))) { s with heap := (s.heap.push o).push { cls := .type "enumerate", data := .fields #[.none, .bool false, .ref s.heap.objs.size, rawInt 0, .none, .none] } }) :=
  .of_wp fun prog w A R s h => by
    obtain ⟨hp, g, d, tk, os⟩ := s; obtain ⟨h1, h⟩ := h
    have hsub := sub_enumerate
    have q1 : ∀ {A' : Around} {E : Value → Shared → Prop} {Q : Value → Shared → Prop}, Q (.ref hp.objs.size) ⟨hp.push o, g, d, tk, os⟩ → wpAny (model prog w) A' (pyIter v) Q E ⟨hp, g, d, tk, os⟩ :=
      fun q => B.iter prog w _ _ ⟨hp, g, d, tk, os⟩ _ h1 q
    wp_walk using q1
    refine wpAny_stack_any fun st => wpAny_pure ?_
    split
    · rename_i c _ _ _ _ _
      cases (c == Value.type "enumerate")
      · wp_walk using q1
        exact ⟨_, rfl, h⟩
      · wp_walk using q1
        exact ⟨_, rfl, h⟩
    · wp_walk using q1
      exact ⟨_, rfl, h⟩
theorem call_enumerate_tup {prog : Program} {w : World} {A : Around} {E : Value → Shared → Prop} {s : Shared} {t : Addr} {items : Array Value} {Q : Value → Shared → Prop} (hT : s.heap.IsTuple t items)
    (h : ∀ h', IsEnum h' (s.heap.objs.size + 1) s.heap.objs.size 0 .none → h'.IsTupleIter s.heap.objs.size t 0 → h'.objs.size = s.heap.objs.size + 2 →
      (∀ b o, s.heap.get? b = some o → h'.get? b = some o) → Q (.ref (s.heap.objs.size + 1)) { s with heap := h' }) :
    wpAny (model prog w) A (call (.type "enumerate") [.ref t]) Q E s := by
  refine callType_new F.called_enumerate (by decide) (F.typeCall_enumerate_1 _) (F.newCall_enumerate_1 _) (fun obj => F.args_object_init_2 obj _) F.entry_enumerate_new
    (meets_enumerate_newG (begins_tuple t items)) ⟨hT, ?_⟩
  have hz : (s.heap.push { cls := .type "tuple_iterator", data := .fields #[.ref t, .int 0 0] }).objs.size = s.heap.objs.size + 1 := Heap.size_push ..
  show _ ∧ _
  rw [hz]
  have he : IsEnum ((s.heap.push { cls := .type "tuple_iterator", data := .fields #[.ref t, .int 0 0] }).push
      { cls := .type "enumerate", data := .fields #[.none, .bool false, .ref s.heap.objs.size, rawInt 0, .none, .none] }) (s.heap.objs.size + 1) s.heap.objs.size 0 .none := by
    have := Heap.get?_push_size (s.heap.push { cls := .type "tuple_iterator", data := .fields #[.ref t, .int 0 0] })
      (o := { cls := .type "enumerate", data := .fields #[.none, .bool false, .ref s.heap.objs.size, rawInt 0, .none, .none] }) rfl
    rw [hz] at this; exact this
  exact ⟨⟨_, he, rfl⟩, h _ he ⟨_, Heap.get?_push_of_some _ (Heap.get?_push_size _ rfl), rfl, rfl⟩ (by rw [Heap.size_push, hz]) fun b o x => Heap.get?_push_of_some _ (Heap.get?_push_of_some _ x)⟩
/-- the tuple at a, each item in a new pair -/
def Itet (K : PySem.W.Frag) (a : Addr) : It :=
  ⟨fun i H => ∃ (xs : List V) (x : V), SqT K H a xs ∧ xs[i]? = some x, fun i H v H' => ∃ T x, v = .ref T ∧ H T = none ∧ H' = upd H T (.tup [.int (i : Nat), x]) ∧ ∀ xs, SqT K H a xs → xs[i]? = some x, fun i H => ∃ xs : List V, SqT K H a xs ∧ xs.length ≤ i⟩
theorem tup_ne_iter {h : Heap} {a it : Addr} {items : Array Value} {i : Nat} (ht : h.IsTuple a items) (hit : h.IsTupleIter it a i) : a ≠ it := by
  rintro rfl
  obtain ⟨o, h1, c1, _⟩ := ht
  obtain ⟨o', h2, c2, _⟩ := hit
  rw [h1] at h2
  obtain rfl := Option.some.inj h2
  rw [c1] at c2
  injection c2 with c3
  exact absurd c3 (by decide)
theorem enum_ne_tup {h : Heap} {a e it : Addr} {items : Array Value} {i : Int} {old : Value} (ht : h.IsTuple a items) (he : IsEnum h e it i old) : e ≠ a := by
  rintro rfl
  obtain ⟨o, h1, c1, _⟩ := ht
  have h2 : h.get? e = _ := he
  rw [h1] at h2
  obtain rfl := Option.some.inj h2
  injection c1 with c3
  exact absurd c3 (by decide)
theorem wpAny_pyNext_enum_endX {prog : Program} {w : World} {A : Around} {E : Value → Shared → Prop} {s : Shared} {e it t : Addr} {i : Nat} {items : Array Value} {old : Value} {Q : Option Value → Shared → Prop} (hh : A.handled = none)
    (he : IsEnum s.heap e it i old) (hit : s.heap.IsTupleIter it t i) (ht : s.heap.IsTuple t items) (hx : items[i]? = none)
    (hQ : ∀ h', Heap.ExtBut it s.heap h' → Q none { s with heap := h' }) : wpAny (model prog w) A (pyNext (.ref e)) Q E s := by
  have hT : s.TypeIs (.ref e) "enumerate" := ⟨_, he, rfl⟩
  unfold pyNext
  refine wpAny_bind (wpAny_attempt (wpAny_callSpecial?_slot (name := Str.ofString "__next__") hT F.slot_enumerate_next
    (wpAny_call_entry F.slot_enumerate_next hT F.entry_enumerate_next ?_ (F.args_enumerate_next_1 _))))
  show wpAny _ _ (field (.ref e) 2 >>= _) _ _ _
  refine wpAny_bind (wpAny_field he rfl (x := .ref it) rfl ?_)
  refine wpAny_bind (wpAny_nextOf_tuple_end (show A.in1.handled = none from hh) hit ht hx fun h' x he' hx' => ?_)
  obtain ⟨o, ho, hc⟩ := hx'
  refine wpAny_bind (wpAny_isInstance (T := "StopIteration") (b := true) ⟨o, ho, hc⟩ isSubtype_stop ?_)
  exact wpAny_pure (hQ _ he')
theorem turn_enumT {P : Program} {w : World} {K : PySem.W.Frag} {elts : List Expr} {kk : Nat} {tpos : Pos} (a e it : Addr) :
    Turn P w K (.Tuple elts kk tpos) (Itet K a) [e, it] e (fun i h => (∃ old, IsEnum h e it ((i : Nat) : Int) old) ∧ h.IsTupleIter it a i ∧ e ≠ it) where
  mem := by simp
  obj := fun i h st b hb => by
    obtain ⟨⟨old, he⟩, ⟨o, ho, hc, hd⟩, _⟩ := st
    have e' : b = e ∨ b = it := by simpa using hb
    rcases e' with z | z
    · rw [z]; exact ⟨_, he, fun v q => nomatch q⟩
    · rw [z]; exact ⟨o, ho, fun v q => by rw [hd] at q; cases q⟩
  keep := fun i h h' st k => let ⟨⟨old, he⟩, hi, hne⟩ := st; ⟨⟨old, k e (by simp) _ he⟩, hi.at fun o q => k it (by simp) o q, hne⟩
  item := by
    intro X hP hw hK hc i pins s σ H E I hf st hg
    subst hP hw hK
    obtain ⟨⟨old, he⟩, hit, hne⟩ := st
    obtain ⟨xs, x, hq, hx⟩ := hg
    obtain ⟨its, rv, p, hz⟩ := I.tuple hq
    obtain ⟨u, hu, ru⟩ := rv.get hx
    have hel : e < s.heap.objs.size := Heap.lt_size he
    have hil : it < s.heap.objs.size := by obtain ⟨_, q, _⟩ := hit; exact Heap.lt_size q
    have pT : s.heap.IsTuple a its.toArray := p
    have hai := tup_ne_iter pT hit
    have hei : i < its.toArray.size := by
      have h9 : i < its.length := by
        rw [← rv.length]
        exact (List.getElem?_eq_some_iff.mp hx).1
      simpa using h9
    refine wpAny_pyNext_enum_itemD (Draws.tuple (show X.A.in1.handled = none from I.ok.hd hc) it a hai its.toArray) he ⟨hit, pT⟩ hei hne (fun z => ?_) fun x2 h' tk hP ho hst' hT hsz hk => ?_
    · rcases List.mem_cons.mp z with z | z
      · exact hne z
      · exact enum_ne_tup pT he (by simpa using z)
    have hP2 : its.toArray[i]? = some x2 := hP
    obtain rfl : u = x2 := by
      have h9 : its[i]? = some x2 := by simpa using hP2
      rw [hu] at h9
      exact Option.some.inj h9
    refine ⟨_, rfl, wpAny_letOwnedTupleGo_enum (s := { s with heap := h', toks := tk + 1 }) ho fun h'' he' sb => ?_⟩
    have hT2 : h''.get? s.heap.objs.size = some { cls := .type "tuple", data := .seq #[.int i tk, u] } := (sb.2 _ (Nat.ne_of_gt hel)).trans hT
    have new : ObjOk X.prog X.w (upd H s.heap.objs.size (.tup [.int (i : Nat), x])) h'' s.heap.objs.size (.tup [.int (i : Nat), x]) :=
      ⟨by show 2 ≤ sizeLine; decide, [.int i tk, u], .cons ⟨_, rfl⟩ (.cons ru .nil), ⟨_, hT2, rfl, _, rfl⟩⟩
    have I1 : Inv X pins σ (upd H s.heap.objs.size (.tup [.int (i : Nat), x])) { s with heap := h'', toks := tk + 1 } :=
      I.turnedNew (ch := [e, it]) (fun b ob hb q => (sb.2 b (fun z => hb (by simp [z]))).trans (hk b ob (fun z => hb (by simp [z])) (fun z => hb (by simp [z])) q)) hf (Nat.le_refl _) new
    refine ⟨.ref s.heap.objs.size, _, I1, rfl, ⟨_, x, rfl, I.hok.fresh (Nat.le_refl _), rfl, fun ys hy => by rw [I.tuple_inj hy hq]; exact hx⟩, ⟨⟨u, ?_⟩, hst'.1.at fun o q => (sb.2 it (Ne.symm hne)).trans q, hne⟩, fun b hb => ?_⟩
    · have e1 : ((i + 1 : Nat) : Int) = (i : Int) + 1 := by omega
      rw [e1]; exact he'
    · have hb' : b < s.heap.objs.size := by
        have e' : b = e ∨ b = it := by simpa using hb
        rcases e' with z | z
        · rw [z]; exact hel
        · rw [z]; exact hil
      rw [upd_ne (Nat.ne_of_lt hb')]
      exact (hf b hb).1
  done := by
    intro X hP hw hK hc i pins s σ H E I hf st hg
    subst hP hw hK
    obtain ⟨⟨old, he⟩, hit, hne⟩ := st
    obtain ⟨xs, hq, hx⟩ := hg
    obtain ⟨its, rv, p, hz⟩ := I.tuple hq
    obtain ⟨f0, f1, f2, f3, f4, f5⟩ := hf it (by simp)
    have pT : s.heap.IsTuple a its.toArray := p
    have hl := rv.length
    refine wpAny_pyNext_enum_endX (I.ok.hd hc) he hit pT (by simp; omega) fun h' eb => ⟨rfl, I.turned (t' := s.toks) (fun b o hb q => eb b o hb q) f0 f1 f3 f4 f5⟩
  self := fun A i s Q E st h => let ⟨⟨_, he⟩, _⟩ := st; wpAny_pyIter_enum he h
def iEnumT (K : PySem.W.Frag) (ta : TA) : TI := fun σ H R => ta σ H fun vs H1 => ∃ a xs, vs = [.ref a] ∧ SqT K H1 a xs ∧ R (Itet K a) H1
theorem pi_enumT {X : Cx} {e : Expr} {ta : TA} {p pos tpos : Pos} {elts : List Expr} {kk : Nat} (hg : Gl X "enumerate") (hm : X.mg "enumerate" = none) (ha : PA X [e] ta) (hs : starEach [e] X.env = [(false, eval e X.env)] := by rfl) :
    PI X (.Tuple elts kk tpos) (.Call (.Name "enumerate" p) [e] [] pos) (iEnumT X.K ta) := by
  refine ⟨fun pins s σ H R I h => ?_⟩
  refine Call_ (ld_blt I hg hm boot_enumerate (PyProof.Rows.callWith_type1 (thn (ha.run pos pins s σ H _ I h) fun us s1 ⟨vs, H1, I1, r1, q1⟩ => ?_) hs rfl))
  obtain ⟨a, xs, ex, hq, q⟩ := q1
  subst ex
  cases r1 with
  | cons r rr =>
    cases rr
    cases r
    obtain ⟨its, rv, p', hz⟩ := I1.tuple hq
    refine call_enumerate_tup (show s1.heap.IsTuple a its.toArray from p') fun h' he hit hsz hk => wpAny_pyIter_enum he ?_
    have I2 : Inv X pins σ H1 { s1 with heap := h' } := I1.kept (t' := s1.toks) hk
    refine ⟨s1.heap.objs.size + 1, [s1.heap.objs.size + 1, s1.heap.objs.size], _, _, H1, rfl, I2, turn_enumT a (s1.heap.objs.size + 1) s1.heap.objs.size, ⟨⟨.none, he⟩, hit, Nat.succ_ne_self _⟩, fun b hb => ?_, q⟩
    have e' : b = s1.heap.objs.size + 1 ∨ b = s1.heap.objs.size := by simpa using hb
    have hle : s1.heap.objs.size ≤ b := by
      rcases e' with z | z
      · rw [z]; exact Nat.le_add_right _ _
      · rw [z]; exact Nat.le_refl _
    exact I1.fpOk hle (I1.hok.fresh hle)
/-! ### sorted(xs) of tuples of ints, also of at most one -/
theorem sort_short {prog : Program} {w : World} {A : Around} {E : Value → Shared → Prop} {s : Shared} {a : Addr} {vs : List Value} {n : Nat} {P : PySem.Fin → Shared → Prop} (ho : s.heap.get? a = some (seqObj "list" vs.toArray n)) (h1 : vs.length < 2)
    (h : ∀ out : Array Value, out.toList.Perm vs → P (.done (.ret .none)) { s with heap := sortedHeap s.heap a vs out }) :
    wpAny (model prog w) A (Builtin.«list.sort» ⟨[.ref a], []⟩) P E s :=
  SK.plain_sort (r := fun _ => 0) ho (by omega) (fun h2 Q hQ => absurd h2 (by omega)) fun ps out e1 e2 e3 => h out (TS.out_rank (r := fun _ => 0) e1 e2 e3).1
theorem sorted_short {prog : Program} {w : World} {A : Around} {E : Value → Shared → Prop} {s : Shared} {l : Addr} {vs : List Value} {Q : Value → Shared → Prop} (hl : s.heap.IsList l vs.toArray) (h1 : vs.length < 2)
    (h : ∀ out : Array Value, out.toList.Perm vs → Q (.ref (s.heap.objs.size + 1)) { s with heap := sortedAll s.heap vs out }) :
    wpAny (model prog w) A (call (.builtin "sorted") [.ref l]) Q E s := by
  refine Calls.call_function_entry kind_sorted plain_sorted entry_sorted (args_sorted1 _) ?_
  unfold Builtin.«sorted»
  refine wpAny_bind (m := checkCount "sorted" 1 1 _) (wpAny_pure ?_)
  refine wpAny_bind (collect_list hl ?_ (by rw [sizeLine_eq]; omega))
  refine wpAny_bind (wpAny_newList ?_ (by rw [sizeLine_eq]; omega))
  have hsz : ((s.heap.push (seqObj "list" #[] 0)).update s.heap.objs.size (Obj.mapSeq (· ++ vs.toArray))).objs.size = s.heap.objs.size + 1 := by
    rw [Heap.size_update, size_push']
  have hoL : (((s.heap.push (seqObj "list" #[] 0)).update s.heap.objs.size (Obj.mapSeq (· ++ vs.toArray))).push (seqObj "list" vs.toArray 0)).get? (s.heap.objs.size + 1) = some (seqObj "list" vs.toArray 0) := by
    rw [← hsz]; exact Heap.get?_push_size _ rfl
  show wpAny _ _ _ _ _ { s with heap := ((s.heap.push (seqObj "list" #[] 0)).update s.heap.objs.size (Obj.mapSeq (· ++ vs.toArray))).push (seqObj "list" vs.toArray 0) }
  rw [hsz]
  refine wpAny_bind (wpAny_holding (wpAny_call_entry slot_list_sort ⟨_, hoL, rfl⟩ entry_list_sort (sort_short hoL h1 fun out a1 => ⟨_, rfl, ?_⟩) (args_list_sort _)))
  exact wpAny_pure ⟨_, rfl, h out a1⟩
def rSortA (K : PySem.W.Frag) (B : Int) : List V → Hp → VK → Prop := fun vs H Q => (∃ d, 1 ≤ d ∧ rSortU K d B vs H Q) ∨
  ∃ (a : Addr) (xs : List V), vs = [V.ref a] ∧ SqL K H a xs ∧ xs.length < 2 ∧ (∀ x ∈ xs, ∃ t, x = .ref t) ∧ ∀ p, H p = none → Q (.ref p) (upd H p (.lst xs))
theorem perm_short {α : Type} {l m : List α} (h : l.Perm m) (h1 : m.length < 2) : l = m := by
  cases m with
  | nil => exact List.perm_nil.mp h
  | cons x r =>
    cases r with
    | nil => exact List.perm_singleton.mp h
    | cons y r => exact absurd h1 (by simp)
theorem cr_sortA {X : Cx} {B : Int} : CallR X (.builtin "sorted") (rSortA X.K B) := by
  intro pins s σ H vs us Q I r h
  rcases h with ⟨d, hd, h⟩ | ⟨a, xs, rfl, hs, h1, hx, q⟩
  · exact cr_sortT hd pins s σ H vs us Q I r h
  · obtain ⟨its, rv, hl, hz⟩ := I.list hs
    rw [Vals.ref1 r]
    obtain ⟨e1, e2⟩ := bkV_refs rv hx
    refine sorted_short hl.isList (by rw [← rv.length]; exact h1) fun out p1 => ?_
    · obtain ⟨ep, he'⟩ := PyProof.Rows.sortedAll_at s.heap its out
      have e9 : out.toList = its := perm_short p1 (by rw [← rv.length]; exact h1)
      refine ⟨.ref _, upd H (s.heap.objs.size + 1) (.lst xs), I.laid (t' := s.toks) (fun _ _ => PyProof.Rows.sortedAll_old) (Nat.le_succ _) ⟨hz, out.toList, ep, by rw [e9]; exact rv, he'⟩, rfl, q _ (I.hok.fresh (Nat.le_succ _))⟩
theorem walk_enumT {K : PySem.W.Frag} {a : Addr} {xs : List V} : Walk (Itet K a) xs.length (fun H => SqT K H a xs) (YPair (fun i => some (.int (i : Nat))) (fun i => xs[i]?)) := by
  refine ⟨fun i _ hi q => ⟨xs, xs[i], q, by simp [hi]⟩, fun _ q => ⟨xs, q, Nat.le_refl _⟩, fun i H v H' _ q y => ?_⟩
  obtain ⟨T, x, h1, h2, h3, h4⟩ := y
  exact ⟨T, .int (i : Nat), x, h1, h2, h3, rfl, h4 xs q⟩
end Ef
set_option maxHeartbeats 4000000
namespace Ef
open PySem PySem.Spec PyProof.Rows L2
/-! ### sorted(t) of a tuple of ints -/
section
variable {prog : Program} {w : World} {A : Around} {E : Value → Shared → Prop} {s : Shared}
theorem collect_tup {l : Addr} {vs : List Value} {Q : List Value → Shared → Prop} (hl : s.heap.IsTuple l vs.toArray) (hn : vs.length ≤ sizeLine)
    (h : Q vs { s with heap := (s.heap.push (seqObj "list" #[] 0)).update s.heap.objs.size (Obj.mapSeq (· ++ vs.toArray)) }) : wpAny (model prog w) A (collect (.ref l)) Q E s := by
  obtain ⟨o, ho, hc, n, hd⟩ := hl
  have h2 : (s.heap.push (seqObj "list" #[] 0)).get? l = some o := Heap.get?_push_of_some _ ho
  have h3 : (s.heap.push (seqObj "list" #[] 0)).get? s.heap.objs.size = some (seqObj "list" #[] 0) := Heap.get?_push_size _ rfl
  have h4 : ((#[] : Array Value) ++ vs.toArray).toList = vs := by simp
  have h5 : (#[] ++ vs.toArray).size ≤ sizeLine + 1 := by
    simp only [Array.size_append, List.size_toArray, List.length_nil]
    omega
  unfold collect
  refine wpAny_bind (wpAny_runValue (codeAny_builtin entry_proto_collect' (show wpAny _ _ (do again (.builtin "list.__iadd__" ⟨[← newList [], .ref l], []⟩)) _ _ s from ?_)))
  refine wpAny_bind (wpAny_newList (wpAny_pure ⟨Code.quiet_builtin _ (by decide +kernel), codeAny_builtin entry_list_iadd' (show wpAny _ _ (Builtin.List.listExtendWith (.ref s.heap.objs.size) (.ref l) (.ref s.heap.objs.size)) _ _ { s with heap := s.heap.push (seqObj "list" #[] 0) } from ?_)⟩))
  unfold Builtin.List.listExtendWith
  refine wpAny_bind (wpAny_typeOf (T := "tuple") ⟨o, h2, hc⟩ ?_)
  rw [if_pos (by rw [show (Value.type "tuple" == Value.type "tuple") = true from rfl]; simp)]
  refine wpAny_bind (listItems_at h2 hd (wpAny_bind (listItems_at (xs := #[]) (n := 0) h3 rfl ?_)))
  rw [if_neg (by simp)]
  refine wpAny_bind (listUpdate_at (xs := #[]) (n := 0) h3 rfl (wpAny_pure ?_) (Nat.zero_le _) h5)
  show wpAny (model prog w) A (do
      let o ← load s.heap.objs.size
      match o.data with
      | .seq ys _ => pure ys.toList
      | _ => unsupported "internal:collect") Q E { s with heap := (s.heap.push (seqObj "list" #[] 0)).update s.heap.objs.size (Obj.mapSeq (· ++ vs.toArray)) }
  refine wpAny_bind (wpAny_load (get?_update_seq h3 _) (show wpAny _ _ (pure ((#[] : Array Value) ++ vs.toArray).toList) Q E _ from ?_))
  rw [h4]
  exact wpAny_pure h
theorem sorted_tup {l : Addr} {vs : List Value} {ns : List Int} {Q : Value → Shared → Prop} (hl : s.heap.IsTuple l vs.toArray) (hI : IntsAre vs ns) (hn : vs.length < 64)
    (h : ∀ (out : Array Value) (ns' : List Int), IntsAre out.toList ns' → ns'.Perm ns → ns'.Pairwise (· ≤ ·) → Q (.ref (s.heap.objs.size + 1)) { s with heap := sortedAll s.heap vs out }) :
    wpAny (model prog w) A (call (.builtin "sorted") [.ref l]) Q E s := by
  refine Calls.call_function_entry kind_sorted plain_sorted entry_sorted (args_sorted1 (.ref l)) ?_
  unfold Builtin.«sorted»
  refine wpAny_bind (m := checkCount "sorted" 1 1 _) (wpAny_pure (wpAny_bind (collect_tup hl (by rw [sizeLine_eq]; omega) (wpAny_bind (wpAny_newList ?_ (by rw [sizeLine_eq]; omega))))))
  have z1 : ((s.heap.push (seqObj "list" #[] 0)).update s.heap.objs.size (Obj.mapSeq (· ++ vs.toArray))).objs.size = s.heap.objs.size + 1 := (Heap.size_update ..).trans (size_push' ..)
  have z2 := Heap.get?_push_size ((s.heap.push (seqObj "list" #[] 0)).update s.heap.objs.size (Obj.mapSeq (· ++ vs.toArray))) (o := seqObj "list" vs.toArray 0) rfl
  rw [z1] at z2
  show wpAny _ _ _ _ _ { s with heap := ((s.heap.push (seqObj "list" #[] 0)).update s.heap.objs.size (Obj.mapSeq (· ++ vs.toArray))).push (seqObj "list" vs.toArray 0) }
  rw [z1]
  refine wpAny_bind (wpAny_holding (wpAny_call_entry slot_list_sort ⟨_, z2, rfl⟩ entry_list_sort (list_sort_tree z2 hI hn fun out ns' a1 a2 a3 => ⟨_, rfl, wpAny_pure ⟨_, rfl, h out ns' a1 a2 a3⟩⟩) (args_list_sort _)))
end
def rSortTI (K : PySem.W.Frag) : List V → Hp → VK → Prop := fun vs H Q => ∃ (a : Addr) (ns : List Int), vs = [V.ref a] ∧ (SqL K H a (ns.map V.int) ∨ SqT K H a (ns.map V.int)) ∧ ns.length < 64 ∧
  ∀ (ns' : List Int) (p : Addr), ns'.Perm ns → ns'.Pairwise (· ≤ ·) → H p = none → Q (.ref p) (upd H p (.lst (ns'.map V.int)))
section
variable {X : Cx} (K : PySem.W.Frag)
theorem cr_sortTI (h : X.K = K := by rfl) : CallR X (.builtin "sorted") (rSortTI K) := by
  subst h
  intro pins s σ H vs us Q I r h
  obtain ⟨a, ns, rfl, hs | hs, h64, q⟩ := h
  · exact cr_sorted pins s σ H _ us Q I r ⟨a, ns, rfl, hs, h64, q⟩
  · obtain ⟨its, rv, hl, hz⟩ := I.tuple hs
    rw [Vals.ref1 r]
    have hi := rv.ints
    refine sorted_tup (show s.heap.IsTuple a its.toArray from hl) hi (by rw [hi.length]; exact h64) fun out ns' h1 h2 h3 => ?_
    obtain ⟨ep, he'⟩ := PyProof.Rows.sortedAll_at s.heap its out
    have hlen : (ns'.map V.int).length ≤ sizeLine := by
      rw [List.length_map, h2.length_eq]
      exact small64 h64
    exact ⟨.ref _, upd H (s.heap.objs.size + 1) (.lst (ns'.map V.int)), I.laid (t' := s.toks) (fun _ _ => PyProof.Rows.sortedAll_old) (Nat.le_succ _) ⟨hlen, out.toList, ep, vals_of_ints h1, he'⟩, rfl, q ns' _ h2 h3 (I.hok.fresh (Nat.le_succ _))⟩
end
end Ef
set_option maxHeartbeats 4000000
namespace Ef
open PySem PySem.Spec PyProof.Rows L2
/-! ### set(xs) of a list of ints -/
section
variable {P : Program} {w : World} {A : Around} {E : Value → Shared → Prop} {s : Shared}
/-- a new set -/
abbrev set0 (w : World) : Obj := { cls := .type "set", dict := none, data := .set #[] 0 (.fresh 0 0 (!w.params.followText "set-order")) }
theorem call_setL {l : Addr} {items : Array Value} (ns : List Int) {Q : Value → Shared → Prop} (hh : A.handled = none) (hl : s.heap.IsList l items) (hit : IntsAre items.toList ns) (hb : ns.length + 1 < scanBound)
    (h : ∀ (h' : Heap) (tk c : Nat), SetR w h' s.heap.objs.size (fun j => decide (j ∈ ns)) c → c ≤ ns.length → (∀ b o, s.heap.get? b = some o → h'.get? b = some o) → Q (.ref s.heap.objs.size) { s with heap := h', toks := tk }) :
    wpAny (model P w) A (call (.type "set") [.ref l]) Q E s := by
  have len : items.size = ns.length := by
    have q := IntsAre.length hit
    rw [Array.length_toList] at q
    exact q
  obtain ⟨mc, mt, y0⟩ := F.called_set.mro
  have y1 := F.called_set.made
  have y2 := F.called_set.sub
  have y3 := F.called_set.notType
  have y4 := F.called_set.canCreate
  have y5 := F.typeCall_set_1 (.ref l)
  have hS : (s.heap.push (set0 w)).get? s.heap.objs.size = some (set0 w) := Heap.get?_push_size _ rfl
  have hT : Shared.TypeIs { s with heap := s.heap.push (set0 w) } (.ref s.heap.objs.size) "set" := ⟨_, hS, rfl⟩
  have y6 := F.called_set.init.lookup
  have y7 := F.called_set.init.bind (.ref s.heap.objs.size)
  refine wpAny_call (codeAny_of_tree (show wpAny _ _ (callAny (.type "set") _) _ _ _ from wpAny_pure ⟨Code.quiet_builtin _ (by decide +kernel), codeAny_builtin F.entry_type_call ?_⟩))
  rw [Around.under_plain (weight_type_call_type "set" [.ref l] []) rfl]
  repeat any_goals first | assumption | wp_step
  refine codeAny_mono (code_set_led1 (.ref l) (E := E) (Q₁ := fun obj s₁ => obj = .ref s.heap.objs.size ∧ s₁ = { s with heap := s.heap.push (set0 w) }) ⟨rfl, rfl⟩) fun r s₁ hr => ?_
  cases r with
  | error e => exact hr
  | ok fl =>
    cases fl with
    | ret obj =>
      obtain ⟨rfl, rfl⟩ := hr
      repeat any_goals first | assumption | wp_step
      refine codeAny_mono (codeAny_call_builtin (R := wants (fun r s₂ => r = .none ∧ ∃ h' tk c, s₂ = { s with heap := h', toks := tk } ∧ SetR w h' s.heap.objs.size (fun j => decide (j ∈ ns)) c ∧ c ≤ ns.length ∧
          (∀ b o, s.heap.get? b = some o → h'.get? b = some o)) E) F.called_set.init.plain F.entry_set_init (check_set_init_1 hT ?_)) fun r₂ s₂ hr₂ => ?_
      · obtain ⟨⟨c1, c2, c3, c4⟩, hol, hcl, nl, hdl⟩ := hl
        simp only at hcl hdl
        subst hcl hdl
        have ho2 : (s.heap.push (set0 w)).get? l = some { cls := .type "list", dict := c2, data := .seq items nl, slots := c4 } := Heap.get?_push_of_some _ hol
        have z1 := F.sub_list_set
        have z2 := F.sub_list_frozenset
        have z3 : (Value.type "list" == Value.type "dict") = false := by decide
        have hl1 : (s.heap.push (set0 w)).IsList l items := ⟨_, ho2, rfl, nl, rfl⟩
        have lS : l < s.heap.objs.size := Heap.lt_size hol
        have sz : (s.heap.push (set0 w)).objs.size = s.heap.objs.size + 1 := Heap.size_push ..
        unfold Builtin.«set.__init__» noKeywords Builtin.Frozenset.updateFrom
        generalize hPI : pyIter = PI
        wp_walk
        subst hPI
        refine wpAny_pyIter_list hl1 (wpAny_bind (wpAny_runValue ?_))
        have h3 : A.in1.in1.in1.handled = none := by simp [hh]
        have ne1 : l ≠ (s.heap.push (set0 w)).objs.size := by
          rw [sz]
          exact Nat.ne_of_lt (Nat.lt_succ_of_lt lS)
        have nf : s.heap.objs.size ∉ [(s.heap.push (set0 w)).objs.size, l] := by
          rw [sz]
          simp only [List.mem_cons, List.not_mem_nil, or_false, not_or]
          exact ⟨Nat.ne_of_lt (Nat.lt_succ_self _), Nat.ne_of_gt lS⟩
        have val : ∀ (i : Nat) (v : Value), items[i]? = some v → ∃ k t, ns[i]? = some k ∧ v = .int k t := fun i v hv => by
          have hi : i < ns.length := by rw [← len]; exact (Array.getElem?_eq_some_iff.mp hv).1
          obtain ⟨t, e⟩ := PyProof.Rows.IntsAre.int_at hit i v (by rw [Array.getElem?_toList]; exact hv)
          refine ⟨ns[i], t, List.getElem?_eq_getElem hi, ?_⟩
          rw [e, List.getD_eq_getElem?_getD, List.getElem?_eq_getElem hi] <;> rfl
        refine set_update_ints ((Walks.list h3 _ l ne1 items).toS) s.heap.objs.size nf ns len hb val (items.size - 0) 0 _ (by omega) (Nat.zero_le _) ⟨⟨_, Heap.get?_push_size _ rfl, rfl, rfl⟩, (hl1.push _)⟩ ⟨0, Nat.le_refl 0, setR_new_at (Heap.get?_push_of_some _ hS)⟩ ?_
        intro s' c' hm hc' hS'
        obtain ⟨h', g2, d', tk', os'⟩ := s'
        have eg : g2 = s.gens := hm.gens
        have ed : d' = s.drawn := hm.drawn
        have eo : os' = s.os := hm.os
        subst eg ed eo
        rw [len] at hc'
        refine wpAny_pure (show wpAny _ _ (ret Value.none) _ _ _ from wpAny_pure ⟨rfl, h', tk', c', rfl, hS', hc', fun b o e => ?_⟩)
        have b0 : b < s.heap.objs.size := Heap.lt_size e
        refine hm.heap b o ?_ (Heap.get?_push_of_some _ (Heap.get?_push_of_some _ e))
        simp only [List.mem_cons, List.not_mem_nil, or_false, not_or]
        rw [sz]
        exact ⟨Nat.ne_of_lt b0, Nat.ne_of_lt (Nat.lt_succ_of_lt b0)⟩
      · cases r₂ with
        | error e => exact hr₂
        | ok fl₂ =>
          cases fl₂ with
          | ret r =>
            obtain ⟨rfl, h', tk, c', rfl, hS', hc', hk'⟩ := hr₂
            repeat any_goals first | assumption | wp_step
            exact h _ _ _ hS' hc' hk'
          | _ => exact hr₂.elim
    | _ => exact hr.elim
end
def rSetL (K : PySem.W.Frag) (w : World) : List V → Hp → VK → Prop := fun xs H Q => ∃ (l : Addr) (ns : List Int), xs = [.ref l] ∧ SqL K H l (ns.map V.int) ∧ ns.length ≤ 1000 ∧
    ∀ (p : Addr) (c : Nat), H p = none → c ≤ ns.length → Q (.ref p) (upd H p (SetO w p (fun j => decide (j ∈ ns)) c))
section
variable {X : Cx} (K : PySem.W.Frag) (w : World)
theorem cr_setL (hc : X.calm = true) (h : X.K = K := by rfl) (hw : X.w = w := by rfl) : CallR X (.type "set") (rSetL K w) := by
  subst h hw
  intro pins s σ H xs us Q I r h
  obtain ⟨l, ns, rfl, hq, hl, q⟩ := h
  obtain ⟨u, rfl, ru⟩ := vals1 r
  obtain rfl : u = Value.ref l := ru
  obtain ⟨its, rv, pt, hz⟩ := I.list hq
  refine call_setL ns (I.ok.hd hc) (show s.heap.IsList l its.toArray from pt.isList) (ints_of_vals rv) (by unfold scanBound; omega) fun h' tk c R1 hcn k => ?_
  exact ⟨.ref _, _, I.laid (t' := tk) k (Nat.le_refl _) (setO_new R1), rfl, q _ c (I.hok.fresh (Nat.le_refl _)) hcn⟩
end
end Ef
set_option maxHeartbeats 4000000
namespace Ef
open PySem PySem.Spec PyProof.Rows L2
open AutoSeq1 (wpAny_loadPart')
/-! ### list(reversed(range(..))) -/
section
variable {prog : Program} {w : World} {A : Around} {E : Value → Shared → Prop} {s : Shared} {I : Addr} {a c : Int} {n : Nat}
theorem hint_rit {x y z : Int} {Q : Value → Shared → Prop} (hi : IsRangeIter s.heap I x y z) (hb : 0 ≤ y ∧ y < 2 ^ 24)
    (h : ∀ u tk, s.toks ≤ tk → Q (.int y u) { s with toks := tk }) : wpAny (model prog w) A (call (.builtin "range_iterator.__length_hint__") [.ref I]) Q E s := by
  have hT : s.TypeIs (.ref I) "range_iterator" := ⟨_, hi, rfl⟩
  refine wpAny_call_entry F.slot_range_iterator_length_hint hT F.entry_range_iterator_length_hint ?_ (F.args_range_iterator_length_hint_1 _)
  obtain ⟨hp, g, d, tk, os⟩ := s
  wp_walk using wpAny_loadPart' hi
  exact ⟨_, rfl, h _ _ (Nat.le_succ _)⟩
theorem extend_rit {R : Result → Shared → Prop} (hh : A.handled = none) (hn : n < 2 ^ 24) (hit : IsRangeIter s.heap I (a + ((0 : Nat) : Int) * c) ((n : Int) - ((0 : Nat) : Int)) c) (S : Addr) (c₀ : Nat) (hSI : S ≠ I)
    (hS : s.heap.get? S = some { cls := .type "list", data := .seq #[] c₀ })
    (hR : ∀ h' tk acc' c', (∀ b o, b ≠ S → b ≠ I → s.heap.get? b = some o → h'.get? b = some o) → h'.get? S = some { cls := .type "list", dict := none, data := .seq acc' c', slots := #[] } →
      ItemsOf (fun i v => ∃ t, v = .int (a + i * c) t) acc' n → R (.ok (.ret .none)) { s with heap := h', toks := tk }) :
    wpAny (model prog w) A.in1 (Builtin.List.listExtendWith (.ref S) (.ref I) .none)
      (fun fin s' => match fin with | .done f => R (.ok f) s' | .again c' => c'.quiet = true ∧ codeAny (model prog w) A c' R s') (fun e s' => R (.error e) s') s := by
  have W := (Walks.range (prog := prog) (w := w) (A := A.in1) hh I a c n).toS
  have hSf : S ∉ [I] := fun hm => hSI (List.mem_singleton.mp hm)
  have hT : s.TypeIs (.ref I) "range_iterator" := ⟨_, hit, rfl⟩
  have z1 : Builtin.List.listSameRef (.ref S) (.ref I) = false := by simp [Builtin.List.listSameRef, hSI]
  unfold Builtin.List.listExtendWith
  refine wpAny_bind (wpAny_typeOf hT ?_)
  rw [if_neg (by rw [z1]; decide)]
  refine wpAny_bind (W.self 0 _ _ _ hit (wpAny_bind (wpAny_holding ?_)))
  unfold Builtin.List.listLengthHint
  refine wpAny_bind (wpAny_specialOf hT F.nolen_ra ?_)
  show wpAny _ A.in1 (specialOf (Value.ref I) (Str.ofString "__length_hint__") >>= _) _ _ _
  refine wpAny_bind (wpAny_specialOf hT F.hint_ra ?_)
  generalize hid : ("range_iterator.__length_hint__" : String) = id0
  wp_delta
  rw [show splitId id0 = some ("range_iterator", "__length_hint__") from by subst hid; decide +kernel]
  subst hid
  refine wpAny_bind (wpAny_isInstance (b := true) hT (by rw [isSubtype_type]; kernel_rfl) ?_)
  show wpAny _ A.in1 (call (.builtin "range_iterator.__length_hint__") [.ref I] >>= _) _ _ _
  have e0 : (n : Int) - ((0 : Nat) : Int) = (n : Int) := by omega
  refine wpAny_bind (hint_rit hit (by rw [e0]; omega) fun u tk htk => ?_)
  refine wpAny_bind (m := asInt? (.int _ u)) (wpAny_pure ?_)
  have z2 : Builtin.List.listTooLong (Int.toNat ((n : Int) - ((0 : Nat) : Int))) = false := by
    rw [e0]
    simp [Builtin.List.listTooLong, sizeLine]
    omega
  dsimp only
  rw [if_neg (by rw [z2]; decide)]
  refine wpAny_pure ?_
  rw [if_neg (by decide)]
  refine wpAny_pure ⟨plainId_quiet F.plain_extend_loop _, codeAny_extend_loopS W (by rw [sizeLine_eq]; omega) S hSf .none n 0 _ #[] c₀ rfl (Nat.zero_le _) hit hS (ItemsOf.nil _) fun s' acc' c' hm hS' hacc => ?_⟩
  rw [Moved.eq_with hm]
  refine hR s'.heap s'.toks acc' c' (fun b o hb hb2 e => hm.heap b o (fun hmem => ?_) e) hS' hacc
  rcases List.mem_cons.mp hmem with e' | hmem
  · exact hb e'
  · exact hb2 (List.mem_singleton.mp hmem)
theorem call_list_rit {Q : Value → Shared → Prop} (hh : A.handled = none) (hn : n < 2 ^ 24) (hit : IsRangeIter s.heap I (a + ((0 : Nat) : Int) * c) ((n : Int) - ((0 : Nat) : Int)) c)
    (hQ : ∀ h' tk acc' c', (∀ b o, b ≠ I → s.heap.get? b = some o → h'.get? b = some o) →
      h'.get? s.heap.objs.size = some { cls := .type "list", dict := none, data := .seq acc' c', slots := #[] } → ItemsOf (fun i v => ∃ t, v = .int (a + i * c) t) acc' n → Q (.ref s.heap.objs.size) { s with heap := h', toks := tk }) :
    wpAny (model prog w) A (call (.type "list") [.ref I]) Q E s := by
  have hIl : I < s.heap.objs.size := Heap.lt_size hit
  refine callType_codes (Q₁ := fun obj s₁ => obj = .ref s.heap.objs.size ∧ s₁ = { s with heap := s.heap.push { cls := .type "list", data := .seq #[] } }) F.called_list (F.typeCall_list_1 _) F.entry_list_init
    (code_list_new _ ⟨rfl, rfl⟩) fun obj s₁ h₁ => ?_
  obtain ⟨rfl, rfl⟩ := h₁
  have hS : (s.heap.push { cls := .type "list", data := .seq #[] }).get? s.heap.objs.size = some { cls := .type "list", data := .seq #[] } := Heap.get?_push_size _ rfl
  refine ⟨⟨_, hS, rfl⟩, F.args_list_init_2 _ _, ?_⟩
  show wpAny _ _ (do let old ← Builtin.List.listItems (.ref s.heap.objs.size); Builtin.List.listUpdate (.ref s.heap.objs.size) (fun _ => #[]); letGo old.toList.reverse; Builtin.List.listExtendWith (.ref s.heap.objs.size) (.ref I) .none) _ _ _
  refine wpAny_bind ?_
  unfold Builtin.List.listItems
  refine wpAny_bind (wpAny_seqItems hS rfl (wpAny_pure ?_))
  show wpAny _ _ (updateSeq s.heap.objs.size (fun _ => #[]) >>= fun _ => letGo (#[] : Array Value).toList.reverse >>= fun _ => Builtin.List.listExtendWith (.ref s.heap.objs.size) (.ref I) .none) _ _ _
  refine wpAny_bind (wpAny_updateSeq hS rfl ?_)
  have hS₂ := Heap.get?_update_self (Obj.mapSeq (fun _ => (#[] : Array Value))) hS rfl
  have oth : ∀ b o, b ≠ s.heap.objs.size → (s.heap.push { cls := .type "list", data := .seq #[] }).get? b = some o → ((s.heap.push { cls := .type "list", data := .seq #[] }).update s.heap.objs.size (Obj.mapSeq (fun _ => (#[] : Array Value)))).get? b = some o :=
    fun b o hb e => (Heap.get?_update_other _ _ (Ne.symm hb)).trans e
  refine wpAny_bind (wpAny_letGo ?_)
  refine extend_rit (A := A.in1) hh hn (oth I _ (Nat.ne_of_lt hIl) (Heap.get?_push_of_some _ hit)) s.heap.objs.size _ (Nat.ne_of_gt hIl) hS₂ fun h' tk acc' c' hk hS' hacc => ?_
  exact ⟨rfl, hQ h' tk acc' c' (fun b o hb e => hk b o (Nat.ne_of_lt (Heap.lt_size e)) hb (oth b o (Nat.ne_of_lt (Heap.lt_size e)) (Heap.get?_push_of_some _ e))) hS' hacc⟩
end
def tLstRev (te : L2.St → Hp → (Int → Int → Hp → Prop) → Prop) : TE := fun σ H Q => te σ H fun a b H1 => RgOk a b ∧ (b - a).toNat < 2 ^ 24 ∧ ∀ q, H1 q = none → Q (.ref q) (upd H1 q (.lst (rgV a b).reverse))
theorem rg_rev (a b : Int) : (rgV a b).reverse = (List.range (b - a).toNat).map fun i => V.int (a + (((b - a).toNat : Nat) : Int) - 1 + (i : Nat) * (-1)) := by
  unfold rgV
  refine List.ext_getElem (by simp) fun i h1 h2 => ?_
  rw [List.getElem_reverse, List.getElem_map, List.getElem_map, List.getElem_range, List.getElem_range, List.length_map, List.length_range]
  rw [List.length_map, List.length_range] at h2
  congr 1
  omega
theorem vals_of {f : Nat → Int} {acc : Array Value} {n : Nat} (h : ItemsOf (fun i v => ∃ t, v = .int (f i) t) acc n) : Vals ((List.range n).map fun i => V.int (f i)) acc.toList := by
  have e : acc.toList.length = n := by rw [Array.length_toList]; exact h.1
  rw [← e]
  refine vals_of_get acc.toList _ fun j u hj => ?_
  obtain ⟨t, rfl⟩ := h.2 j u (by rw [← hj, Array.getElem?_toList])
  exact ⟨t, rfl⟩
section
variable {X : Cx} {e : Expr} {te : L2.St → Hp → (Int → Int → Hp → Prop) → Prop}
theorem pe_listRev {p pos p2 pos2 : Pos} (hc : X.calm = true) (hg : Gl X "list") (hm : X.mg "list" = none) (hg2 : Gl X "reversed") (hm2 : X.mg "reversed" = none) (he : PRg X e te)
    (na : starEach [.Call (.Name "reversed" p2) [e] [] pos2] X.env = (false, eval (.Call (.Name "reversed" p2) [e] [] pos2) X.env) :: starEach [] X.env := by rfl) (nb : starEach [e] X.env = (false, eval e X.env) :: starEach [] X.env := by rfl) :
    PE X (.Call (.Name "list" p) [.Call (.Name "reversed" p2) [e] [] pos2] [] pos) (tLstRev te) := by
  refine ⟨fun pins s σ H Q I h => ?_⟩
  refine Call_ (ld_blt I hg hm boot_list (PyProof.Rows.callWith_type1 (args_cons (Call_ (ld_blt I hg2 hm2 PyProof.Rows.boot_reversed (PyProof.Rows.callWith_type1 (args_cons (thn (he pins s σ H _ I h) fun x s1 ⟨r, a, b, t, u, v, H1, ex, hr, I1, ok, hb, q⟩ => args_nil ?_) nb) nb rfl))) na) na))
  subst ex
  obtain ⟨b1, b2, b3, b4, b5⟩ := ok
  have hn : Builtin.Range.rangeSize a b 1 = (((b - a).toNat : Nat) : Int) := rangeSize_nat a b
  refine call_reversed_range hr (smallRev_one b1 b2 b3 b4) (args_nil ?_)
  have hit : IsRangeIter (s1.heap.push (rngRevObj a b 1)) s1.heap.objs.size (a + (((b - a).toNat : Nat) : Int) - 1 + ((0 : Nat) : Int) * (-1)) ((((b - a).toNat : Nat) : Int) - ((0 : Nat) : Int)) (-1) := by
    have e1 : a + (((b - a).toNat : Nat) : Int) - 1 + ((0 : Nat) : Int) * (-1) = a + (Builtin.Range.rangeSize a b 1 - 1) * 1 := by rw [hn]; omega
    have e2 : (((b - a).toNat : Nat) : Int) - ((0 : Nat) : Int) = Builtin.Range.rangeSize a b 1 := by rw [hn]; omega
    rw [e1, e2]
    exact Heap.get?_push_size _ rfl
  have hsz : (s1.heap.push (rngRevObj a b 1)).objs.size = s1.heap.objs.size + 1 := size_push' ..
  refine call_list_rit (I1.ok.hd hc) hb hit fun h' tk acc c' hk e' hi => ?_
  have kp : ∀ x o, s1.heap.get? x = some o → h'.get? x = some o := fun x o z => hk x o (Nat.ne_of_lt (Heap.lt_size z)) (Heap.get?_push_of_some _ z)
  have ei := rg_rev a b
  have hlen : ((rgV a b).reverse).length ≤ sizeLine := by
    rw [List.length_reverse, rgV_length, sizeLine_eq]
    omega
  show EP X pins σ Q (.ref (s1.heap.push (rngRevObj a b 1)).objs.size) _
  rw [hsz] at e' ⊢
  refine ⟨.ref (s1.heap.objs.size + 1), upd H1 (s1.heap.objs.size + 1) (.lst (rgV a b).reverse), I1.laid (t' := tk) kp (Nat.le_succ _) ⟨hlen, acc.toList, c', ?_, ?_⟩, rfl, q _ (I1.hok.fresh (Nat.le_succ _))⟩
  · rw [ei]
    exact vals_of hi
  · rw [Array.toArray_toList]
    exact e'
end
end Ef
set_option maxHeartbeats 4000000
namespace Ef
open PySem PySem.Spec PyProof.Rows L2
/-! ### list(range(i, j, c)) -/
def rgC (i c : Int) (n : Nat) : List V := (List.range n).map fun k => V.int (i + (k : Nat) * c)
def tLstRgC (ta : TA) : TE := fun σ H Q => ta σ H fun vs H1 => ∃ (i j c : Int) (n : Nat), vs = [.int i, .int j, .int c] ∧ RgC i j c n ∧ n ≤ 2 ^ 24 ∧ ∀ q, H1 q = none → Q (.ref q) (upd H1 q (.lst (rgC i c n)))
section
variable {X : Cx}
theorem pe_listRgC {a b c : Expr} {ta : TA} {p pos p2 pos2 : Pos} (hc : X.calm = true) (hg : Gl X "list") (hm : X.mg "list" = none) (hg2 : Gl X "range") (hm2 : X.mg "range" = none) (ha : PA X [a, b, c] ta)
    (n1 : starEach [a, b, c] X.env = (false, eval a X.env) :: starEach [b, c] X.env := by rfl) (n2 : (backTo pos2 (starEach [b, c] X.env)).any (·.1) = false := by rfl)
    (n3 : starEach [.Call (.Name "range" p2) [a, b, c] [] pos2] X.env = (false, eval (.Call (.Name "range" p2) [a, b, c] [] pos2) X.env) :: starEach [] X.env := by rfl) :
    PE X (.Call (.Name "list" p) [.Call (.Name "range" p2) [a, b, c] [] pos2] [] pos) (tLstRgC ta) := by
  refine ⟨fun pins s σ H Q I h => ?_⟩
  refine Call_ (ld_blt I hg hm boot_list (PyProof.Rows.callWith_type1 (args_cons (Call_ (ld_blt I hg2 hm2 boot_range ?_)) n3) n3))
  refine PyProof.Rows.callWith_type1 ?_ n1 n2
  refine thn (ha.run pos2 pins s σ H _ I h) ?_
  rintro us s1 ⟨vs, H1, I1, r1, q1⟩
  obtain ⟨i, j, k, n, ev, ⟨c0, c1, c2, c3⟩, hn, q⟩ := q1
  subst ev
  match us, r1 with
  | [_, _, _], .cons ⟨t1, e1⟩ (.cons ⟨t2, e2⟩ (.cons ⟨t3, e3⟩ .nil)) =>
    subst e1 e2 e3
    refine call_range_3 c0 (args_nil ?_) (.inl (PyProof.noPylong_small c1))
    have I2 : Inv X pins σ H1 { s1 with heap := s1.heap.push { cls := .type "range", data := .fields #[.int i t1, .int j t2, .int k t3] } } := I1.kept (t' := s1.toks) fun _ _ z => Heap.get?_push_of_some _ z
    refine call_list_range (n := n) (I2.ok.hd hc) (IsRange.new ..) c2 c3 hn fun h' tk acc c' hk e' hi => ?_
    refine ⟨.ref _, upd H1 _ (.lst (rgC i k n)), I2.laid hk (Nat.le_refl _) (show ObjOk X.prog X.w _ _ _ (.lst (rgC i k n)) from ⟨?_, acc.toList, c', vals_of hi, ?_⟩), rfl, q _ (I2.hok.fresh (Nat.le_refl _))⟩
    · unfold rgC
      rw [List.length_map, List.length_range, sizeLine_eq]
      omega
    · rw [Array.toArray_toList]
      exact e'
end
/-! ### list(reversed(xs)), xs a list -/
section
variable {prog : Program} {w : World} {A : Around} {E : Value → Shared → Prop} {s : Shared} {I l : Addr} {xs : Array Value}
theorem extend_rev {R : Result → Shared → Prop} (hh : A.handled = none) (hn : xs.size ≤ sizeLine) (hit : s.heap.IsRevIter I l ((xs.size : Int) - 1)) (hl : s.heap.IsList l xs) (hne : l ≠ I) (S : Addr) (c₀ : Nat) (hSI : S ≠ I) (hSl : S ≠ l)
    (hS : s.heap.get? S = some { cls := .type "list", data := .seq #[] c₀ })
    (hR : ∀ h' tk acc' c', (∀ b o, b ≠ S → b ≠ I → s.heap.get? b = some o → h'.get? b = some o) → h'.get? S = some { cls := .type "list", dict := none, data := .seq acc' c', slots := #[] } →
      ItemsOf (fun i v => xs[xs.size - 1 - i]? = some v) acc' xs.size → R (.ok (.ret .none)) { s with heap := h', toks := tk }) :
    wpAny (model prog w) A.in1 (Builtin.List.listExtendWith (.ref S) (.ref I) .none)
      (fun fin s' => match fin with | .done f => R (.ok f) s' | .again c' => c'.quiet = true ∧ codeAny (model prog w) A c' R s') (fun e s' => R (.error e) s') s := by
  have Wk := (Walks.listRev (prog := prog) (w := w) (A := A.in1) hh I l hne xs).toS
  have hSf : S ∉ [I, l] := by
    intro hm
    rcases List.mem_cons.mp hm with z | z
    · exact hSI z
    · exact hSl (List.mem_singleton.mp z)
  have hT : s.TypeIs (.ref I) "list_reverseiterator" := Heap.IsRevIter.typeIs hit
  have z1 : Builtin.List.listSameRef (.ref S) (.ref I) = false := by simp [Builtin.List.listSameRef, hSI]
  unfold Builtin.List.listExtendWith
  refine wpAny_bind (wpAny_typeOf hT ?_)
  rw [if_neg (by rw [z1]; decide)]
  refine wpAny_bind (wpAny_pyIter_revIter hit (wpAny_bind (wpAny_holding ?_)))
  unfold Builtin.List.listLengthHint
  refine wpAny_bind (wpAny_specialOf hT RT.nolen_lri ?_)
  show wpAny _ A.in1 (specialOf (Value.ref I) (Str.ofString "__length_hint__") >>= _) _ _ _
  refine wpAny_bind (wpAny_specialOf hT RT.hint_lri ?_)
  generalize hid : ("list_reverseiterator.__length_hint__" : String) = id1
  wp_delta
  rw [show splitId id1 = some ("list_reverseiterator", "__length_hint__") from by subst hid; decide +kernel]
  subst hid
  refine wpAny_bind (wpAny_isInstance (b := true) hT (by rw [isSubtype_type]; kernel_rfl) ?_)
  refine wpAny_pure ?_
  rw [if_neg (by decide)]
  have z0 : ((xs.size : Nat) : Int) - 1 - ((0 : Nat) : Int) = (xs.size : Int) - 1 := by omega
  refine wpAny_pure ⟨plainId_quiet F.plain_extend_loop _, codeAny_extend_loopS Wk hn S hSf .none xs.size 0 _ #[] c₀ rfl (Nat.zero_le _) ⟨Nat.zero_le _, by rw [z0]; exact hit, hl⟩ hS (ItemsOf.nil _) fun s' acc' c' hm hS' hacc => ?_⟩
  rw [Moved.eq_with hm]
  refine hR s'.heap s'.toks acc' c' (fun b o hb hb2 e => hm.heap b o (fun hmem => ?_) e) hS' hacc
  rcases List.mem_cons.mp hmem with z | hmem
  · exact hb z
  · exact hb2 (List.mem_singleton.mp hmem)
theorem call_list_rev {Q : Value → Shared → Prop} (hh : A.handled = none) (hn : xs.size ≤ sizeLine) (hit : s.heap.IsRevIter I l ((xs.size : Int) - 1)) (hl : s.heap.IsList l xs) (hne : l ≠ I)
    (hQ : ∀ h' tk acc' c', (∀ b o, b ≠ I → s.heap.get? b = some o → h'.get? b = some o) →
      h'.get? s.heap.objs.size = some { cls := .type "list", dict := none, data := .seq acc' c', slots := #[] } → ItemsOf (fun i v => xs[xs.size - 1 - i]? = some v) acc' xs.size → Q (.ref s.heap.objs.size) { s with heap := h', toks := tk }) :
    wpAny (model prog w) A (call (.type "list") [.ref I]) Q E s := by
  obtain ⟨oi, hoi, _⟩ := id hit
  obtain ⟨ol, hol, _⟩ := id hl
  have hIl := Heap.lt_size hoi
  have hll := Heap.lt_size hol
  refine callType_codes (Q₁ := fun obj s₁ => obj = .ref s.heap.objs.size ∧ s₁ = { s with heap := s.heap.push { cls := .type "list", data := .seq #[] } }) F.called_list (F.typeCall_list_1 _) F.entry_list_init
    (code_list_new _ ⟨rfl, rfl⟩) fun obj s₁ h₁ => ?_
  obtain ⟨rfl, rfl⟩ := h₁
  have hS : (s.heap.push { cls := .type "list", data := .seq #[] }).get? s.heap.objs.size = some { cls := .type "list", data := .seq #[] } := Heap.get?_push_size _ rfl
  refine ⟨⟨_, hS, rfl⟩, F.args_list_init_2 _ _, ?_⟩
  show wpAny _ _ (do let old ← Builtin.List.listItems (.ref s.heap.objs.size); Builtin.List.listUpdate (.ref s.heap.objs.size) (fun _ => #[]); letGo old.toList.reverse; Builtin.List.listExtendWith (.ref s.heap.objs.size) (.ref I) .none) _ _ _
  refine wpAny_bind ?_
  unfold Builtin.List.listItems
  refine wpAny_bind (wpAny_seqItems hS rfl (wpAny_pure ?_))
  show wpAny _ _ (updateSeq s.heap.objs.size (fun _ => #[]) >>= fun _ => letGo (#[] : Array Value).toList.reverse >>= fun _ => Builtin.List.listExtendWith (.ref s.heap.objs.size) (.ref I) .none) _ _ _
  refine wpAny_bind (wpAny_updateSeq hS rfl ?_)
  have hS₂ := Heap.get?_update_self (Obj.mapSeq (fun _ => (#[] : Array Value))) hS rfl
  have oth : ∀ b o, b ≠ s.heap.objs.size → (s.heap.push { cls := .type "list", data := .seq #[] }).get? b = some o → ((s.heap.push { cls := .type "list", data := .seq #[] }).update s.heap.objs.size (Obj.mapSeq (fun _ => (#[] : Array Value)))).get? b = some o :=
    fun b o hb e => (Heap.get?_update_other _ _ (Ne.symm hb)).trans e
  refine wpAny_bind (wpAny_letGo ?_)
  have kp : ∀ b o, s.heap.get? b = some o → ((s.heap.push { cls := .type "list", data := .seq #[] }).update s.heap.objs.size (Obj.mapSeq (fun _ => (#[] : Array Value)))).get? b = some o := fun b o e => oth b o (Nat.ne_of_lt (Heap.lt_size e)) (Heap.get?_push_of_some _ e)
  refine extend_rev (A := A.in1) hh hn (hit.at fun o e => kp _ o e) (hl.at fun o e => kp _ o e) hne s.heap.objs.size _ (Nat.ne_of_gt hIl) (Nat.ne_of_gt hll) hS₂ fun h' tk acc' c' hk hS' hacc => ?_
  exact ⟨rfl, hQ h' tk acc' c' (fun b o hb e => hk b o (Nat.ne_of_lt (Heap.lt_size e)) hb (kp b o e)) hS' hacc⟩
end
def tLstRevL (K : PySem.W.Frag) (te : TE) : TE := fun σ H Q => te σ H fun v H1 => ∃ (a : Addr) (xs : List V), v = .ref a ∧ SqL K H1 a xs ∧ ∀ q, H1 q = none → Q (.ref q) (upd H1 q (.lst xs.reverse))
section
variable {X : Cx}
theorem pe_listRevL {e : Expr} {te : TE} {p p2 pos pos2 : Pos} (hc : X.calm = true) (hg : Gl X "list") (hm : X.mg "list" = none) (hg2 : Gl X "reversed") (hm2 : X.mg "reversed" = none) (he : PE X e te)
    (hs : starEach [e] X.env = (false, eval e X.env) :: starEach [] X.env := by rfl)
    (hs2 : starEach [.Call (.Name "reversed" p2) [e] [] pos2] X.env = (false, eval (.Call (.Name "reversed" p2) [e] [] pos2) X.env) :: starEach [] X.env := by rfl) :
    PE X (.Call (.Name "list" p) [.Call (.Name "reversed" p2) [e] [] pos2] [] pos) (tLstRevL X.K te) := by
  refine ⟨fun pins s σ H Q I h => ?_⟩
  refine Call_ (ld_blt I hg hm boot_list (PyProof.Rows.callWith_type1 (args_cons (Call_ (ld_blt I hg2 hm2 PyProof.Rows.boot_reversed (PyProof.Rows.callWith_type1 (args_cons (thn (he.run pins s σ H _ I h) fun u s1 ⟨v, H1, I1, r1, q1⟩ => args_nil ?_) hs) hs rfl))) hs2) hs2 rfl))
  obtain ⟨a, xs, ev, hq, q⟩ := q1
  subst ev
  obtain rfl : u = Value.ref a := r1
  obtain ⟨its, rv, pl, hz⟩ := I1.list hq
  refine call_reversed_list pl.isList (args_nil ?_)
  have I2 : Inv X pins σ H1 { s1 with heap := s1.heap.push (revObj a ((its.toArray.size : Int) - 1)) } := I1.kept (t' := s1.toks) fun b o z => Heap.get?_push_of_some _ z
  obtain ⟨f0, f1, f2, f3, f4, f5⟩ := I1.fpOk (H' := H1) (b := s1.heap.objs.size) (Nat.le_refl _) (I1.hok.fresh (Nat.le_refl _))
  have hl := pl.isList
  obtain ⟨ol, hol, _⟩ := id hl
  have hsz : (s1.heap.push (revObj a ((its.toArray.size : Int) - 1))).objs.size = s1.heap.objs.size + 1 := size_push' ..
  refine call_list_rev (s := { s1 with heap := s1.heap.push (revObj a ((its.toArray.size : Int) - 1)) }) (I1.ok.hd hc) (by rw [List.size_toArray, ← rv.length]; exact hz) ⟨_, Heap.get?_push_size _ rfl, rfl, rfl⟩ (hl.push _) (Nat.ne_of_lt (Heap.lt_size hol)) fun h' tk acc c' hk e' hi => ?_
  have I3 : Inv X pins σ H1 { s1 with heap := h', toks := tk } := I2.turned (t' := tk) (fun b o hb z => hk b o hb z) f0 f1 f3 f4 f5
  have kp : ∀ b o, s1.heap.get? b = some o → h'.get? b = some o := fun b o z => hk b o (Nat.ne_of_lt (Heap.lt_size z)) (Heap.get?_push_of_some _ z)
  show EP X pins σ Q (.ref (s1.heap.push (revObj a ((its.toArray.size : Int) - 1))).objs.size) _
  rw [hsz]
  have e2 : h'.get? (s1.heap.objs.size + 1) = some { cls := .type "list", dict := none, data := .seq acc c', slots := #[] } := by
    rw [← hsz]
    exact e'
  refine ⟨.ref (s1.heap.objs.size + 1), upd H1 (s1.heap.objs.size + 1) (.lst xs.reverse), I1.laid (t' := tk) kp (Nat.le_succ _) ⟨by rw [List.length_reverse]; exact hz, acc.toList, c', RT.vals_rev rv hi, ?_⟩, rfl, q _ (I1.hok.fresh (Nat.le_succ _))⟩
  rw [Array.toArray_toList]
  exact e2
end
end Ef
namespace Ef
open PySem PySem.Spec PyProof.Rows L2
/-! ### repr of a list of one value of any sort -/
section
variable {X : Cx} {es : List Expr} {t : TA} {pos : Pos}
def tLstN (t : TA) : TE := fun σ H Q => t σ H fun xs H1 => xs.length ≤ sizeLine ∧ ∀ p, H1 p = none → p ≠ sysModules → Q (.ref p) (upd H1 p (.lst xs))
theorem far_new {pins : List (Addr × Obj)} {σ : L2.St} {H : Hp} {s : Shared} (I : Inv X pins σ H s) : s.heap.objs.size ≠ sysModules := by
  obtain ⟨mc, h1, _⟩ := I.nolimit
  have h2 : cStatics < s.heap.objs.size := h1.lt
  have h3 : (2 : Nat) < s.heap.objs.size := h2
  show ¬ s.heap.objs.size = 1
  omega
theorem pe_lstN (h : PA X es t) : PE X (.List es pos) (tLstN t) := by
  refine ⟨fun pins s σ H Q I hq => ?_⟩
  refine wpAny_List_spliced (thn (h.run pos pins s σ H _ I hq) fun us s1 ⟨xs, H1, I1, r, z, q⟩ => ⟨by rw [← r.length]; exact z, ?_⟩)
  have hf : H1 s1.heap.objs.size = none := I1.hok.fresh (Nat.le_refl _)
  refine ⟨.ref s1.heap.objs.size, upd H1 s1.heap.objs.size (.lst xs), I1.laid (t' := s1.toks) (fun b u e => Heap.get?_push_of_some _ e) (Nat.le_refl _) ?_, rfl, q _ hf (far_new I1)⟩
  exact ⟨z, us, 0, r, Heap.get?_push_size _ rfl⟩
end
/-- data that is not deep, or an empty dict -/
def ItemS (K : PySem.W.Frag) (H : Hp) (v : V) (d : PyData) : Prop := (Dp K H v d ∧ Sh 50 70000 d) ∨ (d = .dict [] ∧ ∃ p, v = .ref p ∧ H p = some (.dK []))
theorem ItemS.mono {K : PySem.W.Frag} {H H' : Hp} {v : V} {d : PyData} (s : Same H H') (h : ItemS K H v d) : ItemS K H' v d := by
  rcases h with ⟨h, h2⟩ | ⟨e, p, e2, h⟩
  · exact .inl ⟨Dp.mono s h, h2⟩
  · exact .inr ⟨e, p, e2, s _ _ h⟩
def rReprL (K : PySem.W.Frag) : List V → Hp → VK → Prop := fun xs H Q => ∃ l v d, xs = [.ref l] ∧ H l = some (.lst [v]) ∧ l ≠ sysModules ∧ ItemS K H v d ∧ Q (.str (PyData.list [d]).shown) H
section
variable {X : Cx} (K : PySem.W.Frag)
theorem call_reprL (gd : X.A.guards = some []) (hu : X.A.units + 66 < cLine) (h : X.K = K := by rfl) : CallR X (.builtin "repr") (rReprL K) := by
  subst h
  intro pins s σ H xs us Q I r h
  obtain ⟨l, v, d, rfl, hl, hne, hI, q⟩ := h
  rcases hI with ⟨hD, hS⟩ | ⟨rfl, p, rfl, hp⟩
  · refine call_reprD gd hu pins s σ H _ us Q I r ⟨.ref l, .list [d], rfl, .lst (SqL.of hl) (.cons hD .nil), ?_, q⟩
    exact (Sh.lst (ShAll.cons hS (ShAll.nil.mono (Nat.zero_le 50) (Nat.zero_le 0)))).mono (by decide) (by decide)
  · obtain ⟨u, rfl, ru⟩ := vals1 r
    obtain rfl : u = Value.ref l := ru
    obtain ⟨_, hsys, vs, kv, o, es, ep, ho, hx, hd, hk, hpr, hn⟩ := dk_of I.hok hp
    have e1 : vs = [] := by
      cases kv
      rfl
    subst e1
    have e2 : es.toList = [] := by
      generalize es.toList = l at hpr ⊢
      cases hpr
      rfl
    have rd : Reads s.heap (.ref p) (.dict []) (p :: [] ++ []) := by
      refine .dict ho hx.1 hd ?_ ?_
      · rw [e2]
        exact .nil
      · rw [e2]
        exact .nil
    obtain ⟨its, rv, ⟨ol, nl, g1, g2, g3, g4⟩, hz⟩ := I.list (SqL.of hl)
    obtain ⟨u, rfl, ru⟩ := vals1 rv
    obtain rfl : u = Value.ref p := ru
    have dep : PyData.depth (.list [.dict []]) ≤ 3 := by decide
    have rdl : Reads s.heap (.ref l) (.list [.dict []]) (l :: ((p :: [] ++ []) ++ [])) := .list g1 g2 (by first | exact g3 | exact g4) (.cons rd .nil)
    refine repr_of_reads' rdl rfl (fun _ hm => ?_) gd (by omega) (fun _ _ e => e) (fun h' u tk hk => ?_) (by decide +kernel)
    · have e3 : sysModules = l ∨ sysModules = p := by simpa using hm
      rcases e3 with e3 | e3
      · exact hne e3.symm
      · rw [← e3] at hsys
        exact absurd hsys (by simp)
    · exact ⟨.str _, H, I.kept hk, ⟨u, rfl⟩, q⟩
end
section
variable {X : Cx} (K : PySem.W.Frag)
theorem cr_allK (hc : X.calm = true := by rfl) (h : X.K = K := by rfl) : CallR X (.builtin "all") (rAll K) := h ▸ cr_all hc
end
end Ef
namespace Ef
open PySem PySem.Spec PyProof.Rows L2
/-! ### data: equal to itself, shown -/
theorem neD_same {K : PySem.W.Frag} {H : Hp} {x y : V} {d : PyData} {Q : VK} (hx : Dp K H x d) (hy : Dp K H y d) (s : Sh 60 80000 d) (q : Q (.bl false) H) : rNeD K x y H Q := by
  refine ⟨d, d, hx, hy, s.shaped (by decide), s.shaped (by decide), ?_⟩
  rw [SeqAt.eqv_refl d s.can]
  exact q
theorem eqD_same {K : PySem.W.Frag} {H : Hp} {x y : V} {d : PyData} {Q : VK} (hx : Dp K H x d) (hy : Dp K H y d) (s : Sh 60 80000 d) (q : Q (.bl true) H) : rEqD K x y H Q := by
  refine ⟨d, d, hx, hy, s.shaped (by decide), s.shaped (by decide), ?_⟩
  rw [SeqAt.eqv_refl d s.can]
  exact q
/-- numbers as data -/
def natD (ms : List Nat) : List PyData := ms.map fun (m : Nat) => PyData.int (m : Int)
theorem sh_nat {ms : List Nat} {b : Nat} (h0 : 0 < b) (h6 : b ≤ 600) (h : ∀ x ∈ ms, x < 2 ^ b) : ShAll 0 ((b + 1) * ms.length) (natD ms) := by
  have e : natD ms = (ms.map fun (m : Nat) => (m : Int)).map PyData.int := by
    unfold natD
    rw [List.map_map]
    rfl
  rw [e]
  have h1 := ShAll.ints h0 h6 (ns := ms.map fun (m : Nat) => (m : Int)) fun x hx => by
    obtain ⟨m, hm, rfl⟩ := List.mem_map.mp hx
    exact h m hm
  rw [List.length_map] at h1
  exact h1
theorem sh_list {ms : List Nat} (hl : ms.length ≤ 60) (h : ∀ x ∈ ms, x < 60) : Sh 1 500 (.tuple (natD ms)) := by
  have h1 := sh_nat (b := 6) (by decide) (by decide) (ms := ms) fun x hx => by
    have := h x hx
    omega
  exact Sh.tup (h1.mono (by decide) (by omega))
end Ef
set_option maxHeartbeats 4000000
namespace Ef
open PySem PySem.Spec PyProof.Rows L2
/-! ### x in l, l.index(x), l.count(x) where items are data -/
def rCntD (K : PySem.W.Frag) : V → List V → Hp → VK → Prop := fun x xs H Q => ∃ (a : Addr) (y : V) (d : PyData) (ds : List PyData), x = V.ref a ∧ xs = [y] ∧ Dp K H (V.ref a) (.list ds) ∧ Dp K H y d ∧
  SeqAt.shaped (.list ds) = true ∧ SeqAt.shaped d = true ∧ Q (.int (ds.countP (fun z => PyData.eqv z d) : Nat)) H
theorem mt_countD {X : Cx} (hu : X.A.units + 65 < cLine) : MtR X "list.count" (rCntD X.K) := by
  intro pins s σ H x xs v us Q I rx rxs h
  obtain ⟨a, y, d, ds, rfl, rfl, hl, hy, sl, sd, q⟩ := h
  cases rx
  cases rxs with
  | cons ry rt =>
    rename_i uy ut
    cases rt
    obtain ⟨bs, r1⟩ := Dp.reads I d y uy hy ry
    have hxs : PyData.canLayAll0 ds = true := SeqAt.canLay_of_shaped sl
    have hroom : X.A.units + 1 + min (PyData.depthAll ds) d.depth < cLine := room_in_shaped sd hu
    cases hl with
    | lst hs ha =>
      obtain ⟨its, rv, ⟨⟨cls, dd, data, sls⟩, n, ho, hc, hdn, hdt⟩, hlen⟩ := I.list hs
      simp only at hc hdt
      subst hc hdt
      obtain ⟨as, h4⟩ := Dp.readsAll I ds _ its ha rv
      have hmap : its.map (SeqAt.readOf s.heap) = ds := SeqAt.readsAll_map ds its as hxs h4
      refine call_meets PySem.F.slot_list_count ⟨_, ho, rfl⟩ PySem.F.entry_list_count (PySem.F.args_list_count_2 _ _)
        (SeqAt.list_countAt a its.toArray n dd sls uy (fun u => PyData.eqv (SeqAt.readOf s.heap u) d)) ⟨ho, SeqAt.items_eqAt (vs := its.toArray) (show ReadsAll s.heap its.toArray.toList ds as from h4) r1 hxs (SeqAt.canLay_of_shaped sd) hroom, ?_⟩
      refine ⟨.int (ds.countP (fun z => PyData.eqv z d) : Nat), H, I.tok _, ⟨s.toks, ?_⟩, q⟩
      show Value.int ((its.toArray.toList.countP (fun u => PyData.eqv (SeqAt.readOf s.heap u) d) : Nat) : Int) s.toks = _
      rw [← hmap, List.countP_map]
      rfl
theorem op_inDK {X : Cx} (K : PySem.W.Frag) (hu : X.A.units + 65 < cLine) (h : X.K = K := by rfl) : OpR X (compareOp .In) (rInD K) := h ▸ op_inD hu
theorem op_notInDK {X : Cx} (K : PySem.W.Frag) (hu : X.A.units + 65 < cLine) (h : X.K = K := by rfl) : OpR X (compareOp .NotIn) (rNotInD K) := h ▸ op_notInD hu
theorem mt_indexDK {X : Cx} (K : PySem.W.Frag) (hu : X.A.units + 65 < cLine) (h : X.K = K := by rfl) : MtR X "list.index" (rIndexD K) := h ▸ mt_indexD hu
theorem mt_countDK {X : Cx} (K : PySem.W.Frag) (hu : X.A.units + 65 < cLine) (h : X.K = K := by rfl) : MtR X "list.count" (rCntD K) := h ▸ mt_countD hu
/-- two lists of numbers, as data -/
theorem eqv_nats : ∀ (a b : List Nat), PyData.eqvAll (natD a) (natD b) = decide (a = b)
  | [], [] => by simp [natD, PyData.eqvAll]
  | [], b :: s => by simp [natD, PyData.eqvAll]
  | a :: r, [] => by simp [natD, PyData.eqvAll]
  | a :: r, b :: s => by
    have ih := eqv_nats r s
    have e : PyData.eqvAll (natD (a :: r)) (natD (b :: s)) = (((a : Int) == (b : Int)) && PyData.eqvAll (natD r) (natD s)) := by
      show PyData.eqvAll (PyData.int (a : Int) :: natD r) (PyData.int (b : Int) :: natD s) = _
      simp only [PyData.eqvAll, PyData.eqv]
    rw [e, ih]
    by_cases h1 : a = b
    · subst h1
      by_cases h2 : r = s
      · subst h2
        simp
      · simp [h2]
    · have h3 : ((a : Int) == (b : Int)) = false := beq_eq_false_iff_ne.mpr fun z => h1 (by omega)
      rw [h3]
      simp [h1]
theorem eqv_natT (a b : List Nat) : PyData.eqv (.tuple (natD a)) (.tuple (natD b)) = decide (a = b) := by
  simp only [PyData.eqv]
  exact eqv_nats a b
end Ef
set_option maxHeartbeats 4000000
namespace Ef
open PySem PySem.Spec PyProof.Rows L2
open PySem.W (dataLe AllAlike Sortable EachIs sorted_data sortLe_total TotalLe dataLt dataLt_tuple dataLt_ints)
/-! ### sorted of a list of data, any number of them -/
abbrev dLe : V × PyData → V × PyData → Bool := dataLe false (fun b : V × PyData => b.2)
def rSortD (K : PySem.W.Frag) : List V → Hp → VK → Prop := fun vs H Q => ∃ (a : Addr) (bs : List (V × PyData)), vs = [V.ref a] ∧ SqL K H a (bs.map (·.1)) ∧ (∀ b ∈ bs, Dp K H b.1 b.2) ∧ AllAlike (bs.map (·.2)) ∧ Sortable (bs.map (·.2)) ∧ (∀ b ∈ bs, b.2.depth ≤ 20) ∧
  ∀ p : Addr, H p = none → Q (.ref p) (upd H p (.lst ((bs.mergeSort dLe).map (·.1))))
theorem each_vals : ∀ {bs : List (V × PyData)} {us : List Value}, Vals (bs.map (·.1)) us → EachIs (fun u (b : V × PyData) => RelV b.1 u) us bs
  | [], _, .nil => .nil
  | _ :: _, _, .cons r t => .cons r (each_vals t)
theorem vals_each : ∀ {bs : List (V × PyData)} {us : List Value}, EachIs (fun u (b : V × PyData) => RelV b.1 u) us bs → Vals (bs.map (·.1)) us
  | [], _, .nil => .nil
  | _ :: _, _, .cons r t => .cons r (vals_each t)
section
variable {X : Cx} {K : PySem.W.Frag}
theorem each_reads {pins : List (Addr × Obj)} {σ : L2.St} {H : Hp} {s : Shared} (I : Inv X pins σ H s) : ∀ {bs : List (V × PyData)} {us : List Value}, (∀ b ∈ bs, Dp X.K H b.1 b.2) → EachIs (fun u (b : V × PyData) => RelV b.1 u) us bs → EachIs (fun u (b : V × PyData) => ∃ as, Reads s.heap u b.2 as) us bs
  | [], _, _, .nil => .nil
  | b :: _, _, h, .cons r t => .cons (Dp.reads I b.2 b.1 _ (h b List.mem_cons_self) r) (each_reads I (fun c hc => h c (List.mem_cons_of_mem _ hc)) t)
theorem cr_sortD (hu : X.A.units + 64 < cLine) (h : X.K = K := by rfl) : CallR X (.builtin "sorted") (rSortD K) := by
  subst h
  intro pins s σ H vs us Q I r hq
  obtain ⟨a, bs, rfl, hs, hd, hal, hk, hdp, q⟩ := hq
  obtain ⟨its, rv, hl, hz⟩ := I.list hs
  obtain ⟨u, rfl, ru⟩ := vals1 r
  obtain rfl : u = Value.ref a := ru
  have ee := each_vals rv
  have hz2 : bs.length ≤ sizeLine := by
    rw [List.length_map] at hz
    exact hz
  refine sorted_data (β := V × PyData) (bs := bs) (enc := fun b : V × PyData => b.2) (R := fun u (b : V × PyData) => RelV b.1 u) hl.isList ee (each_reads I hd ee) hal hk hz2 (fun b hb => by have := hdp b hb; omega) fun out hlen eo => ?_
  obtain ⟨n, hn⟩ := sortedAll_at s.heap its out.toArray
  refine ⟨.ref _, upd H (s.heap.objs.size + 1) (.lst ((bs.mergeSort dLe).map (·.1))), I.laid (t' := s.toks) (fun _ _ z => sortedAll_old z) (Nat.le_succ _) ⟨?_, out, n, vals_each eo, ?_⟩, rfl, q _ (I.hok.fresh (Nat.le_succ _))⟩
  · rw [List.length_map, List.length_mergeSort]
    exact hz2
  · simpa using hn
end
theorem sl_listK {X : Cx} {K : PySem.W.Frag} (h : X.K = K := by rfl) : SlR X (rSlL K) := h ▸ sl_list
def rDictP (K : PySem.W.Frag) : List V → Hp → VK → Prop := fun xs H Q => ∃ (a : Addr) (ps : List Addr) (kvs : List (Key × V)), xs = [.ref a] ∧ SqL K H a (ps.map V.ref) ∧ Paired (fun p kv => SqT K H p [kV kv.1, kv.2]) ps kvs ∧ ∀ p, H p = none → Q (.ref p) (upd H p (.dK (mergeK [] kvs)))
theorem call_dictPK {X : Cx} {K : PySem.W.Frag} (hc : X.calm = true) (h : X.K = K := by rfl) : CallR X (.type "dict") (rDictP K) := by
  subst h
  exact call_dictP hc
/-! the order -/
theorem dLe_ord : TotalLe dLe := sortLe_total _ false _
theorem dLe_trans (a b c : V × PyData) (h1 : dLe a b = true) (h2 : dLe b c = true) : dLe a c = true := dLe_ord.trans a b c h1 h2
theorem dLe_total (a b : V × PyData) : (dLe a b || dLe b a) = true := (Bool.or_eq_true _ _).mpr (dLe_ord.total a b)
theorem dsort_perm (bs : List (V × PyData)) : (bs.mergeSort dLe).Perm bs := List.mergeSort_perm bs dLe
theorem dsort_asc (bs : List (V × PyData)) : (bs.mergeSort dLe).Pairwise fun a b => dLe a b = true := List.pairwise_mergeSort dLe_trans dLe_total bs
theorem dsort_id {bs : List (V × PyData)} (h : bs.Pairwise fun a b => dLe a b = true) : bs.mergeSort dLe = bs := List.mergeSort_of_pairwise h
theorem dLe_lt (a b : V × PyData) : dLe a b = !dataLt b.2 a.2 := rfl
theorem dLe_ints {u v : V} {xs ys : List Int} : dLe (u, .tuple (xs.map .int)) (v, .tuple (ys.map .int)) = !decide (ys < xs) := by
  rw [dLe_lt]
  show (!dataLt (.tuple (ys.map .int)) (.tuple (xs.map .int))) = _
  rw [dataLt_tuple]
  exact congrArg (!·) (dataLt_ints ys xs)
end Ef
namespace Ef
open PySem PySem.Spec PyProof.Rows L2
/-! ### a comprehension within a comprehension -/
theorem lookup_map (c : Str → NameKind → Bool) (x : Str) : ∀ names : List (Str × NameKind), (names.lookup x = some .cell ∨ names.lookup x = some .free) → ((names.map fun (n, k) => if c n k = true then (n, NameKind.cell) else (n, k)).lookup x = some .cell ∨ (names.map fun (n, k) => if c n k = true then (n, NameKind.cell) else (n, k)).lookup x = some .free)
  | [], h => by simp at h
  | (n, k) :: r, h => by
    rw [List.map_cons]
    by_cases e : x == n
    · rw [List.lookup_cons, e] at h
      by_cases cc : c n k = true
      · simp only [cc, if_true]
        rw [List.lookup_cons, e]
        exact .inl rfl
      · simp only [cc, Bool.false_eq_true, if_false]
        rw [List.lookup_cons, e]
        exact h
    · have e2 : (x == n) = false := by simpa using e
      rw [List.lookup_cons, e2] at h
      have ih := lookup_map c x r h
      by_cases cc : c n k = true
      · simp only [cc, if_true]
        rw [List.lookup_cons, e2]
        exact ih
      · simp only [cc, Bool.false_eq_true, if_false]
        rw [List.lookup_cons, e2]
        exact ih
theorem blkOk_in {N : List Str} {sc scope : Scope} {own : List (Str × Nat)} {env : Env} (h : BlkOk N sc scope own) : BlkOk N (relabel sc env) scope own :=
  ⟨h.kind, h.uniq, h.ix, fun y hy e => lookup_map (fun n k => k == NameKind.free && env.scope.kind == .function && env.kindOf n == some .cell) y.1 sc.names (h.free y hy e), h.own⟩
end Ef
set_option maxHeartbeats 4000000
namespace Ef
open PySem PySem.Spec PyProof.Rows L2
/-! ### set(t) of a tuple of ints with its size, len(s) of a set -/
/-- c is the number of different ones among ns -/
def Diff (ns : List Int) (c : Nat) : Prop := ∃ ks : List Int, ks.Nodup ∧ (∀ k, k ∈ ks ↔ k ∈ ns) ∧ ks.length = c
theorem Diff.nodup {ns : List Int} {c : Nat} (h : Diff ns c) (hn : ns.Nodup) : c = ns.length := by
  obtain ⟨ks, h1, h2, rfl⟩ := h
  exact ((List.perm_ext_iff_of_nodup h1 hn).mpr h2).length_eq
theorem sub_len : ∀ {ks ns : List Int}, ks.Nodup → (∀ k ∈ ks, k ∈ ns) → ks.length ≤ ns.length
  | [], _, _, _ => Nat.zero_le _
  | k :: r, ns, h, hs => by
    have hk := hs k List.mem_cons_self
    have h1 := sub_len (ks := r) (ns := ns.erase k) (List.nodup_cons.mp h).2 fun x hx => (List.mem_erase_of_ne (fun e : x = k => (List.nodup_cons.mp h).1 (e ▸ hx))).mpr (hs x (List.mem_cons_of_mem _ hx))
    have h2 := List.length_erase_of_mem hk
    have h3 := List.length_pos_of_mem hk
    show r.length + 1 ≤ ns.length
    omega
theorem sub_perm : ∀ {ks ns : List Int}, ks.Nodup → (∀ k ∈ ks, k ∈ ns) → ns.length ≤ ks.length → ks.Perm ns
  | [], ns, _, _, h => by
    have : ns = [] := List.length_eq_zero_iff.mp (Nat.le_zero.mp h)
    rw [this]
  | k :: r, ns, h, hs, hl => by
    have hk := hs k List.mem_cons_self
    have h2 := List.length_erase_of_mem hk
    have hl2 : ns.length ≤ r.length + 1 := hl
    have h1 := sub_perm (ks := r) (ns := ns.erase k) (List.nodup_cons.mp h).2 (fun x hx => (List.mem_erase_of_ne (fun e : x = k => (List.nodup_cons.mp h).1 (e ▸ hx))).mpr (hs x (List.mem_cons_of_mem _ hx))) (by omega)
    exact (h1.cons k).trans (List.perm_cons_erase hk).symm
theorem Diff.le {ns : List Int} {c : Nat} (h : Diff ns c) : c ≤ ns.length := by
  obtain ⟨ks, h1, h2, rfl⟩ := h
  exact sub_len h1 fun k hk => (h2 k).mp hk
theorem Diff.not {ns : List Int} {c : Nat} (h : Diff ns c) (hn : ¬ ns.Nodup) : c ≠ ns.length := by
  intro e
  obtain ⟨ks, h1, h2, rfl⟩ := h
  have p : ks.Perm ns := sub_perm h1 (fun k hk => (h2 k).mp hk) (by omega)
  exact hn (p.nodup_iff.mp h1)
section
variable {X : Cx} {K : PySem.W.Frag} {w : World}
theorem setR_diff {h : Heap} {a : Addr} {ns : List Int} {c : Nat} (R : SetR w h a (fun j => decide (j ∈ ns)) c) : Diff ns c := by
  obtain ⟨o, es, ep, t, _, _, _, _, nd, mem, _, _, sz, _⟩ := R
  refine ⟨es.toList.map keyOf, nd, fun k => ?_, ?_⟩
  · rw [← mem k]
    exact decide_eq_true_iff
  · rw [List.length_map, Array.length_toList]
    exact sz
def rSetTn (K : PySem.W.Frag) (w : World) : List V → Hp → VK → Prop := fun xs H Q => ∃ (l : Addr) (ns : List Int), xs = [.ref l] ∧ (SqT K H l (ns.map V.int)) ∧ ns.length ≤ 1000 ∧
    ∀ (p : Addr) (c : Nat), H p = none → Diff ns c → Q (.ref p) (upd H p (SetO w p (fun j => decide (j ∈ ns)) c))
theorem cr_setTn (hc : X.calm = true) (h : X.K = K := by rfl) (hw : X.w = w := by rfl) : CallR X (.type "set") (rSetTn K w) := by
  subst h hw
  intro pins s σ H xs us Q I r h
  obtain ⟨l, ns, rfl, hq, hl, q⟩ := h
  obtain ⟨u, rfl, ru⟩ := vals1 r
  obtain rfl : u = Value.ref l := ru
  obtain ⟨its, rv, pt, hz⟩ := I.tuple hq
  refine call_set_tupI ns (I.ok.hd hc) (show s.heap.IsTuple l its.toArray from pt) (ints_of_vals rv) (by unfold scanBound; omega) fun h' tk c R1 hcn k => ?_
  exact ⟨.ref _, _, I.laid (t' := tk) k (Nat.le_refl _) (setO_new R1), rfl, q _ c (I.hok.fresh (Nat.le_refl _)) (setR_diff R1)⟩
def rLenSet (w : World) : List V → Hp → VK → Prop := fun xs H Q => ∃ (p : Addr) (S : Int → Bool) (c : Nat), xs = [.ref p] ∧ H p = some (SetO w p S c) ∧ Q (.int (c : Int)) H
theorem call_lenSet (hw : X.w = w := by rfl) : CallR X (.builtin "len") (rLenSet w) := by
  subst hw
  intro pins s σ H xs us Q I r h
  obtain ⟨p, S, c, rfl, hp, q⟩ := h
  obtain ⟨u, rfl, ru⟩ := vals1 r
  obtain rfl : u = Value.ref p := ru
  obtain ⟨o, es, ep, t, ho, hex, hd, _, _, _, sb, hf, hn, _⟩ := setO_get I hp
  have b : (es.size : Int) < 2 ^ 63 := by
    have : scanBound ≤ 2 ^ 62 := by unfold scanBound; decide
    omega
  exact call_len_set ho hex hd hf b ⟨.int c, H, I.tok _, ⟨_, by rw [hn]⟩, q⟩
end
end Ef
set_option maxHeartbeats 4000000
namespace Ef
open PySem PySem.Spec PyProof.Rows L2
/-! ### a list or a tuple walked through; len(set(xs)) of a list -/
def iEither (K : PySem.W.Frag) (tl : TE) : TI := fun σ H R => iList K tl σ H R ∨ iTup K tl σ H R
theorem pi_either {X : Cx} (K : PySem.W.Frag) {tg l : Expr} {tl : TE} (hl : PE X l tl) (h : X.K = K := by rfl) : PI X tg l (iEither K tl) := by
  subst h
  exact ⟨fun pins s σ H R I h => h.elim ((pi_list hl).run pins s σ H R I) ((pi_tup hl).run pins s σ H R I)⟩
theorem for_either {K : PySem.W.Frag} {a : Addr} {xs : List V} {g : TG} {tb : TS} {D : Ends} {σ : L2.St} {H : Hp} {i : Nat} (hv : σ[i]? = some (some (.ref a))) (hA : SqL K H a xs ∨ SqT K H a xs) (Pv : Nat → L2.St → Hp → Prop) (h0 : Pv 0 σ H) (hl : ∀ i σ H', Pv i σ H' → Same H H')
    (hs : ∀ i x σ H, xs[i]? = some x → Pv i σ H → g x σ H fun σ2 H2 => tb { D with nx := Pv (i + 1), ct := Pv (i + 1), bk := D.nx } σ2 H2) (hd : ∀ σ H, Pv xs.length σ H → D.nx σ H) : tFor (iEither K (tVar i)) g tb D σ H := by
  rcases hA with hA | hA
  · exact .inl ⟨.ref a, hv, a, rfl, ⟨_, hA⟩, for_list Pv h0 (fun i σ H' _ p => (hl i σ H' p).seq hA) hs hd⟩
  · exact .inr ⟨.ref a, hv, a, rfl, ⟨_, hA⟩, for_tup Pv h0 (fun i σ H' _ p => Same.seqT (hl i σ H' p) hA) hs hd⟩
/-- a method of a list, in a comprehension -/
theorem pe_bmK {X : Cx} (K : PySem.W.Frag) {T : String} {name : Str} {id : String} {r : V → List V → Hp → VK → Prop} {o e : Expr} {es : List Expr} {to : TE} {t : TA} {apos cpos : Pos} (pa : PlainAttrs T) (slot : Slot T name id) (hty : typeOf (.builtin id) = pure (.type "method_descriptor")) (hm : MtR X id r) (ho : PE X o to) (ha : PA X (e :: es) t) (h : X.K = K := by rfl)
    (hbase : attributeBase o name X.env (eval o X.env) = eval o X.env := by rfl)
    (hfew : ((backTo cpos (starEach (e :: es) X.env)).all (fun x => !x.1) && (backToKw cpos (keywordEach [] X.env)).all (fun x => x.1.isSome)
      && decide ((e :: es).length + ([] : List Keyword).length + (if ([] : List Keyword).isEmpty then 0 else 1) < 30)) = true := by rfl)
    (hline : (apos.endLine == cpos.line) = true := by rfl) (hs : starEach (e :: es) X.env = (false, eval e X.env) :: starEach es X.env := by rfl) (hplain : (backTo cpos (starEach es X.env)).any (·.1) = false := by rfl) : PE X (.Call (.Attribute o name apos) (e :: es) [] cpos) (tBM K T r to t) := h ▸ pe_bm pa slot hty hm ho ha hbase hfew hline hs hplain
theorem lc_either {K : PySem.W.Frag} {a : Addr} {xs : List V} {g : TG} {tt : TT} {te : TE} {vs : List Nat} {σ : L2.St} {H : Hp} {Q : VK} {i : Nat} (hv : σ[i]? = some (some (.ref a))) (hA : SqL K H a xs ∨ SqT K H a xs) (Pv : Addr → Nat → Hp → Prop) (h0 : ∀ D, H D = none → Pv D 0 (upd H D (.lst []))) (hl : ∀ D k H', Pv D k H' → Same H H')
    (hs : ∀ D, H D = none → ∀ k x H', xs[k]? = some x → Pv D k H' → g x (wipe σ vs) H' fun σ2 H2 => wipe σ2 vs = wipe σ vs ∧ tt σ2 H2 fun b H3 => if b = true then te σ2 H3 fun y H4 => ∃ acc, H4 D = some (.lst acc) ∧ acc.length < sizeLine ∧ Pv D (k + 1) (upd H4 D (.lst (acc ++ [y]))) else Pv D (k + 1) H3)
    (hd : ∀ D, H D = none → ∀ H', Pv D xs.length H' → Q (.ref D) H') : tLc (iEither K (tVar i)) g tt te vs σ H Q := by
  rcases hA with hA | hA
  · exact .inl ⟨.ref a, hv, a, rfl, ⟨_, hA⟩, fun D nD => lc_list (Pv D) (h0 D nD) (fun k H' _ p => (hl D k H' p).seq hA) (hs D nD) (hd D nD)⟩
  · exact .inr ⟨.ref a, hv, a, rfl, ⟨_, hA⟩, fun D nD => lc_tup (Pv D) (h0 D nD) (fun k H' _ p => Same.seqT (hl D k H' p) hA) (hs D nD) (hd D nD)⟩
/-- a dict comprehension over anything that is walked -/
theorem dc_walk {J : It} {n : Nat} {G : Hp → Prop} {Y : Nat → Hp → V → Hp → Prop} (wk : Walk J n G Y) {g : TG} {tt : TT} {tk tv : TE} {vs : List Nat} {σ : L2.St} {H1 : Hp} {D : Addr} {Qd : Hp → Prop} (Pv : Nat → Hp → Prop) (h0 : Pv 0 (upd H1 D (.dK []))) (hG : ∀ k H, k ≤ n → Pv k H → G H)
    (hs : ∀ k x H H', k < n → Pv k H → Y k H x H' → g x (wipe σ vs) H' fun σ2 H2 => wipe σ2 vs = wipe σ vs ∧ tt σ2 H2 fun b H3 =>
      if b = true then tk σ2 H3 fun y H4 => tv σ2 H4 fun z H5 => ∃ kvs k', y = kV k' ∧ H5 D = some (.dK kvs) ∧ kvs.length < sizeLine ∧ Pv (k + 1) (upd H5 D (.dK (putK kvs k' z))) else Pv (k + 1) H3) (hd : ∀ H, Pv n H → Qd H) :
    ∃ W : Nat → Nat → Hp → Prop, (∃ m, W 0 m (upd H1 D (.dK []))) ∧ ∀ k m H, W k m H →
      (J.stop k H ∧ Qd H) ∨ (J.go k H ∧ ∃ Nx : Hp → Prop, (∀ H', Nx H' → ∃ m', m' < m ∧ W (k + 1) m' H') ∧ ∀ x H', J.yld k H x H' → g x (wipe σ vs) H' fun σ2 H2 => wipe σ2 vs = wipe σ vs ∧ tt σ2 H2 fun b H3 =>
        if b = true then tk σ2 H3 fun y H4 => tv σ2 H4 fun z H5 => ∃ kvs k', y = kV k' ∧ H5 D = some (.dK kvs) ∧ kvs.length < sizeLine ∧ Nx (upd H5 D (.dK (putK kvs k' z))) else Nx H3) := by
  refine ⟨fun k m H => (m = n - k ∧ k ≤ n) ∧ Pv k H, ⟨n, ⟨by omega, Nat.zero_le _⟩, h0⟩, fun k m H hw => ?_⟩
  obtain ⟨⟨hm, hk⟩, hp⟩ := hw
  have hg := hG k H hk hp
  rcases Nat.lt_or_eq_of_le hk with hlt | heq
  · exact .inr ⟨wk.goes k H hlt hg, Pv (k + 1), fun H' hp' => ⟨n - (k + 1), by omega, ⟨rfl, hlt⟩, hp'⟩, fun x H' hy => hs k x H H' hlt hp (wk.yields k H x H' hlt hg hy)⟩
  · subst heq
    exact .inl ⟨wk.stops H hg, hd H hp⟩
theorem dc_either {K : PySem.W.Frag} {a : Addr} {xs : List V} {g : TG} {tt : TT} {tk tv : TE} {vs : List Nat} {σ : L2.St} {H : Hp} {Q : VK} {i : Nat} (hv : σ[i]? = some (some (.ref a))) (hA : SqL K H a xs ∨ SqT K H a xs) (Pv : Addr → Nat → Hp → Prop) (h0 : ∀ D, H D = none → Pv D 0 (upd H D (.dK []))) (hl : ∀ D k H', Pv D k H' → Same H H')
    (hs : ∀ D, H D = none → ∀ k x H', xs[k]? = some x → Pv D k H' → g x (wipe σ vs) H' fun σ2 H2 => wipe σ2 vs = wipe σ vs ∧ tt σ2 H2 fun b H3 => if b = true then tk σ2 H3 fun y H4 => tv σ2 H4 fun z H5 => ∃ kvs k', y = kV k' ∧ H5 D = some (.dK kvs) ∧ kvs.length < sizeLine ∧ Pv D (k + 1) (upd H5 D (.dK (putK kvs k' z))) else Pv D (k + 1) H3)
    (hd : ∀ D, H D = none → ∀ H', Pv D xs.length H' → Q (.ref D) H') : tDc (iEither K (tVar i)) g tt tk tv vs σ H Q := by
  rcases hA with hA | hA
  · exact .inl ⟨.ref a, hv, a, rfl, ⟨_, hA⟩, fun D nD => dc_walk walk_list (Pv D) (h0 D nD) (fun k H' _ p => (hl D k H' p).seq hA) (fun k x H2 H' hk hp hy => by obtain ⟨e1, e2⟩ := hy; rw [e1]; exact hs D nD k x H2 e2 hp) (hd D nD)⟩
  · exact .inr ⟨.ref a, hv, a, rfl, ⟨_, hA⟩, fun D nD => dc_tup (Pv D) (h0 D nD) (fun k H' _ p => Same.seqT (hl D k H' p) hA) (hs D nD) (hd D nD)⟩
/-- an item of a list or of a tuple -/
theorem ix_either {X : Cx} (K : PySem.W.Frag) (h : X.K = K := by rfl) : IxR X (fun x y H Q => rIxL K x y H Q ∨ rIxT K x y H Q) := by
  intro value slice pins s σ H x y v u Q I rx ry hq
  rcases hq with hq | hq
  · exact ix_listK K h value slice pins s σ H x y v u Q I rx ry hq
  · exact ix_tupK K h value slice pins s σ H x y v u Q I rx ry hq
def rSetLn (K : PySem.W.Frag) (w : World) : List V → Hp → VK → Prop := fun xs H Q => ∃ (l : Addr) (ns : List Int), xs = [.ref l] ∧ SqL K H l (ns.map V.int) ∧ ns.length ≤ 1000 ∧
    ∀ (p : Addr) (c : Nat), H p = none → Diff ns c → Q (.ref p) (upd H p (SetO w p (fun j => decide (j ∈ ns)) c))
theorem cr_setLn {X : Cx} (K : PySem.W.Frag) (w : World) (hc : X.calm = true) (h : X.K = K := by rfl) (hw : X.w = w := by rfl) : CallR X (.type "set") (rSetLn K w) := by
  subst h hw
  intro pins s σ H xs us Q I r h
  obtain ⟨l, ns, rfl, hq, hl, q⟩ := h
  obtain ⟨u, rfl, ru⟩ := vals1 r
  obtain rfl : u = Value.ref l := ru
  obtain ⟨its, rv, pt, hz⟩ := I.list hq
  refine call_setL ns (I.ok.hd hc) (show s.heap.IsList l its.toArray from pt.isList) (ints_of_vals rv) (by unfold scanBound; omega) fun h' tk c R1 hcn k => ?_
  exact ⟨.ref _, _, I.laid (t' := tk) k (Nat.le_refl _) (setO_new R1), rfl, q _ c (I.hok.fresh (Nat.le_refl _)) (setR_diff R1)⟩
/-- at most one different number -/
theorem Diff.one {ns : List Int} {c : Nat} (h : Diff ns c) : c ≤ 1 ↔ ∀ a ∈ ns, ∀ b ∈ ns, a = b := by
  obtain ⟨ks, h1, h2, rfl⟩ := h
  constructor
  · intro hc a ha b hb
    have ha2 := (h2 a).mpr ha
    have hb2 := (h2 b).mpr hb
    match ks, hc, ha2, hb2 with
    | [], _, ha2, _ => cases ha2
    | [x], _, ha2, hb2 => exact (List.mem_singleton.mp ha2).trans (List.mem_singleton.mp hb2).symm
  · intro h
    match ks, h1, h2 with
    | [], _, _ => exact Nat.zero_le _
    | [x], _, _ => exact Nat.le_refl _
    | x :: y :: r, h1, h2 =>
      exfalso
      obtain ⟨g1, _⟩ := List.nodup_cons.mp h1
      have := h x ((h2 x).mp List.mem_cons_self) y ((h2 y).mp (List.mem_cons_of_mem _ List.mem_cons_self))
      exact g1 (this ▸ List.mem_cons_self)
end Ef
namespace Ef
/-! ### the lists ascend -/
abbrev intL (ms : List Nat) : List Int := ms.map fun (m : Nat) => (m : Int)
theorem lt_cons {a b : Int} {l m : List Int} : a :: l < b :: m ↔ a < b ∨ a = b ∧ l < m := List.cons_lt_cons_iff
/-- m is not before l -/
def LexLe (l m : List Nat) : Prop := ¬ intL m < intL l
theorem LexLe.cons_lt {a b : Nat} {l m : List Nat} (h : a < b) : LexLe (a :: l) (b :: m) := fun z => by
  have z2 : ((b : Int) :: intL m) < ((a : Int) :: intL l) := z
  rcases lt_cons.mp z2 with z | ⟨z, _⟩ <;> omega
theorem LexLe.cons_eq {a : Nat} {l m : List Nat} (h : LexLe l m) : LexLe (a :: l) (a :: m) := fun z => by
  have z2 : ((a : Int) :: intL m) < ((a : Int) :: intL l) := z
  rcases lt_cons.mp z2 with z | ⟨_, z⟩
  · omega
  · exact h z
theorem asc_lt {L : List Nat} (a : Asc L) {i j x y : Nat} (hi : L[i]? = some x) (hj : L[j]? = some y) (h : i < j) : x < y := by
  obtain ⟨a1, a2⟩ := List.getElem?_eq_some_iff.mp hi
  obtain ⟨b1, b2⟩ := List.getElem?_eq_some_iff.mp hj
  rw [← a2, ← b2]
  exact List.pairwise_iff_getElem.mp a i j a1 b1 h
theorem fol_asc {n c : Nat} : ∀ {ss L : List Nat} {r r' : Nat}, FolOk n c ss L r → FolOk n c ss L r' → Asc L → r ≤ r' → LexLe (fol n c ss L r).1 (fol n c ss L r').1
  | [], _, _, _, _, _, _, _ => fun z => by cases z
  | s :: ss, L, r, r', ⟨w0, h1, g1, o1⟩, ⟨_, h2, g2, o2⟩, a, h => by
    rw [fol_cons, fol_cons]
    have hd : r / wd n c s ≤ r' / wd n c s := Nat.div_le_div_right h
    by_cases e : r / wd n c s = r' / wd n c s
    · have m1 := Nat.div_add_mod r (wd n c s)
      have m2 := Nat.div_add_mod r' (wd n c s)
      rw [← e] at o2 m2 ⊢
      have hm : r % wd n c s ≤ r' % wd n c s := by omega
      exact LexLe.cons_eq (fol_asc o1 o2 (asc_erase a _) (by omega))
    · exact LexLe.cons_lt (asc_lt a (getD_of h1) (getD_of h2) (by omega))
theorem path_asc {n d c k k' : Nat} (h : Std n d c) (hk : k ≤ k') (hk' : k' < c) : LexLe (path n d c k).1 (path n d c k').1 :=
  fol_asc (path_ok h (by omega)) (path_ok h hk') (asc_range' n 0) hk
end Ef
set_option maxHeartbeats 4000000
namespace Ef
open PySem PySem.Spec PyProof.Rows L2
/-! ### dicts whose keys are tuples, nested at will -/
mutual
/-- the value is this key -/
inductive NkAt (K : PySem.W.Frag) (H : Hp) : NestedKey → V → Prop
  | num (i : Int) : NkAt K H (.num i) (.int i)
  | tup {a : Addr} {xs : List V} {ks : List NestedKey} : SqT K H a xs → NkAll K H ks xs → NkAt K H (.tup ks) (.ref a)
inductive NkAll (K : PySem.W.Frag) (H : Hp) : List NestedKey → List V → Prop
  | nil : NkAll K H [] []
  | cons {k : NestedKey} {v : V} {ks : List NestedKey} {vs : List V} : NkAt K H k v → NkAll K H ks vs → NkAll K H (k :: ks) (v :: vs)
end
mutual
theorem NkAt.mono {K : PySem.W.Frag} {H H' : Hp} (m : ∀ a xs, SqT K H a xs → SqT K H' a xs) : ∀ (k : NestedKey) (v : V), NkAt K H k v → NkAt K H' k v
  | .none, _, h => by cases h
  | .num i, _, h => by cases h; exact .num i
  | .text x, _, h => by cases h
  | .tup ks, _, h => by
    cases h with
    | tup h1 h2 => exact .tup (m _ _ h1) (NkAll.mono m ks _ h2)
theorem NkAll.mono {K : PySem.W.Frag} {H H' : Hp} (m : ∀ a xs, SqT K H a xs → SqT K H' a xs) : ∀ (ks : List NestedKey) (vs : List V), NkAll K H ks vs → NkAll K H' ks vs
  | [], _, h => by cases h; exact .nil
  | k :: ks, _, h => by
    cases h with
    | cons h1 h2 => exact .cons (NkAt.mono m k _ h1) (NkAll.mono m ks _ h2)
end
theorem NkAt.same {K : PySem.W.Frag} {H H' : Hp} {k : NestedKey} {v : V} (s : Same H H') (h : NkAt K H k v) : NkAt K H' k v := NkAt.mono (fun _ _ z => Same.seqT s z) k v h
section
variable {X : Cx} {pins : List (Addr × Obj)} {σ : L2.St} {H : Hp} {s : Shared}
mutual
theorem nk_is (I : Inv X pins σ H s) : ∀ (k : NestedKey) (v : V) (u : Value), NkAt X.K H k v → RelV v u → NestedIs s.heap k u
  | .none, _, _, h, _ => by cases h
  | .num i, _, u, h, r => by
    cases h
    obtain ⟨t, rfl⟩ := (show ∃ t, u = Value.int i t from r)
    exact .int i t
  | .text x, _, _, h, _ => by cases h
  | .tup ks, _, u, h, r => by
    cases h with
    | @tup a xs _ h1 h2 =>
      obtain rfl : u = Value.ref a := r
      obtain ⟨its, rv, ⟨o, ho, hc, n, hd⟩, _⟩ := I.tuple h1
      exact .tup ho hc hd (by simpa using nk_all I ks _ _ h2 rv)
theorem nk_all (I : Inv X pins σ H s) : ∀ (ks : List NestedKey) (vs : List V) (us : List Value), NkAll X.K H ks vs → Vals vs us → NestedAll s.heap ks us
  | [], _, _, h, r => by
    cases h
    cases r
    exact .nil
  | k :: ks, _, _, h, r => by
    cases h with
    | cons h1 h2 =>
      cases r with
      | cons r1 r2 => exact .cons (nk_is I k _ _ h1 r1) (nk_all I ks _ _ h2 r2)
end
end
abbrev DRel : List (NestedKey × Addr × V) → List (NestedKey × Addr × Value) → Prop := PySem.Paired fun p q => p.1 = q.1 ∧ p.2.1 = q.2.1 ∧ RelV p.2.2 q.2.2
abbrev KN (xs : List (NestedKey × Addr × V)) : List (NestedKey × V) := xs.map fun x => (x.1, x.2.2)
theorem DRel.val {xs : List (NestedKey × Addr × V)} {ys : List (NestedKey × Addr × Value)} (r : DRel xs ys) (k : NestedKey) : RelO (valV (KN xs) k) ((atKey ys k).map (·.2)) := by
  induction r with
  | nil => exact True.intro
  | @cons p q ps qs h t ih =>
    obtain ⟨h1, _, h2⟩ := h
    by_cases e : p.1 = k
    · have e' : q.1 = k := h1.symm.trans e
      have b : atKey (q :: qs) k = some q.2 := by simp [atKey, List.find?_cons, e']
      rw [b]
      show RelO (valV ((p.1, p.2.2) :: KN ps) k) _
      rw [valV_pos e]
      exact h2
    · have e' : ¬ q.1 = k := fun z => e (h1.trans z)
      have b : atKey (q :: qs) k = atKey qs k := by simp [atKey, List.find?_cons, e']
      rw [b]
      show RelO (valV ((p.1, p.2.2) :: KN ps) k) _
      rw [valV_neg e]
      exact ih
/-- d[k] = v over the pairs with their keys' places -/
def putN (xs : List (NestedKey × Addr × V)) (k : NestedKey) (b : Addr) (v : V) : List (NestedKey × Addr × V) :=
  if (valV (KN xs) k).isSome = true then xs.map (fun x => if x.1 = k then (x.1, x.2.1, v) else x) else xs ++ [(k, b, v)]
theorem DRel.repl {xs : List (NestedKey × Addr × V)} {ys : List (NestedKey × Addr × Value)} (r : DRel xs ys) (k : NestedKey) {y : V} {u : Value} (ry : RelV y u) :
    DRel (xs.map fun x => if x.1 = k then (x.1, x.2.1, y) else x) (ys.map (putAt k u)) := by
  induction r with
  | nil => exact .nil
  | @cons p q ps qs h t ih =>
    rw [List.map_cons, List.map_cons]
    refine .cons ?_ ih
    obtain ⟨h1, h2, h3⟩ := h
    unfold putAt
    by_cases e : p.1 = k
    · rw [if_pos e, if_pos (h1.symm.trans e)]; exact ⟨h1, h2, ry⟩
    · rw [if_neg e, if_neg (fun z => e (h1.trans z))]; exact ⟨h1, h2, h3⟩
theorem DRel.put {xs : List (NestedKey × Addr × V)} {ys : List (NestedKey × Addr × Value)} (r : DRel xs ys) (k : NestedKey) (b : Addr) {y : V} {u : Value} (ry : RelV y u) :
    DRel (putN xs k b y) (storedH ys k b u) := by
  have e : (valV (KN xs) k).isSome = (atKey ys k).isSome := by
    rw [(r.val k).isSome_eq, Option.isSome_map]
  unfold putN storedH
  rw [e]
  by_cases q : (atKey ys k).isSome = true
  · rw [if_pos q, if_pos q]; exact r.repl k ry
  · rw [if_neg q, if_neg q]; exact Paired.snoc r ⟨rfl, rfl, ry⟩
theorem KN_put (xs : List (NestedKey × Addr × V)) (k : NestedKey) (b : Addr) (v : V) : KN (putN xs k b v) = putK (KN xs) k v := by
  unfold putN putK
  rw [valV_any]
  by_cases q : (valV (KN xs) k).isSome = true
  · rw [if_pos q, if_pos q]
    unfold KN
    rw [List.map_map, List.map_map]
    refine List.map_congr_left fun x _ => ?_
    show ((if x.1 = k then (x.1, x.2.1, v) else x).1, (if x.1 = k then (x.1, x.2.1, v) else x).2.2) = if x.1 = k then (x.1, v) else (x.1, x.2.2)
    by_cases e : x.1 = k
    · rw [if_pos e, if_pos e]
    · rw [if_neg e, if_neg e]
  · rw [if_neg q, if_neg q]
    unfold KN
    rw [List.map_append]
    rfl
theorem putN_mem {xs : List (NestedKey × Addr × V)} {k : NestedKey} {b : Addr} {v : V} {x : NestedKey × Addr × V} (h : x ∈ putN xs k b v) : (∃ y ∈ xs, x.1 = y.1 ∧ x.2.1 = y.2.1) ∨ (x.1 = k ∧ x.2.1 = b) := by
  unfold putN at h
  split at h
  · obtain ⟨y, hy, rfl⟩ := List.mem_map.mp h
    refine .inl ⟨y, hy, ?_⟩
    by_cases e : y.1 = k
    · rw [if_pos e]; exact ⟨rfl, rfl⟩
    · rw [if_neg e]; exact ⟨rfl, rfl⟩
  · rcases List.mem_append.mp h with h | h
    · exact .inl ⟨x, h, rfl, rfl⟩
    · rw [List.mem_singleton.mp h]
      exact .inr ⟨rfl, rfl⟩
/-- a dict at a: its keys, where they stand, its values -/
def DN (P : Program) (w : World) (a : Addr) (xs : List (NestedKey × Addr × V)) : HO := .ext fun h => (a == sysModules) = false ∧ xs.length ≤ sizeLine ∧ ∃ ys : List (NestedKey × Addr × Value), DRel xs ys ∧
  ∃ o es ep, h.get? a = some o ∧ o.ExactDict ∧ o.data = .dict es ep ∧ es.toList = ys.map (entryOfKey (nestedKind P w)) ∧ (ys.map (·.1)).Nodup
theorem dn_ok {P : Program} {w : World} {H : Hp} {h : Heap} {a : Addr} {xs : List (NestedKey × Addr × V)} (h1 : (a == sysModules) = false) (h2 : xs.length ≤ sizeLine) {ys : List (NestedKey × Addr × Value)} (r : DRel xs ys) (d : h.DictOfH (nestedKind P w) a ys) :
    ObjOk P w H h a (DN P w a xs) := by
  obtain ⟨o, es, ep, e1, e2, e3, e4, _, e5⟩ := d
  refine ⟨⟨h1, h2, ys, r, o, es, ep, e1, e2, e3, e4, e5⟩, ⟨o, e1⟩, fun g1 g2 ⟨a1, a2, ys', a3, o', es', ep', b1, b2⟩ st => ⟨a1, a2, ys', a3, o', es', ep', st _ b1, b2⟩⟩
/-- the pairs of the dict at d -/
def DAt (P : Program) (w : World) (K : PySem.W.Frag) (H : Hp) (d : Addr) (kvs : List (NestedKey × V)) : Prop := ∃ xs, H d = some (DN P w d xs) ∧ (∀ x ∈ xs, NkAt K H x.1 (.ref x.2.1) ∧ x.1.depth ≤ 8) ∧ kvs = KN xs
theorem DAt.same {P : Program} {w : World} {K : PySem.W.Frag} {H H' : Hp} {d : Addr} {kvs : List (NestedKey × V)} (s : Same H H') (h : DAt P w K H d kvs) : DAt P w K H' d kvs := by
  obtain ⟨xs, h1, h2, h3⟩ := h
  exact ⟨xs, s _ _ h1, fun x hx => ⟨(h2 x hx).1.same s, (h2 x hx).2⟩, h3⟩
theorem SqT_updE {K : PySem.W.Frag} {H : Hp} {a D : Addr} {xs : List V} {φ : Heap → Prop} {o : HO} (h : SqT K H a xs) (hD : H D = some (.ext φ)) : SqT K (upd H D o) a xs := by
  rcases h with (h | ⟨o, h⟩) | h
  · exact .inl (.inl (by rw [upd_ne (fun c => by rw [c, hD] at h; cases h)]; exact h))
  · exact .inl (.inr ⟨o, by rw [upd_ne (fun c => by rw [c, hD] at h; cases h)]; exact h⟩)
  · exact .inr h
theorem DAt.ext {P : Program} {w : World} {K : PySem.W.Frag} {H : Hp} {d : Addr} {kvs : List (NestedKey × V)} (h : DAt P w K H d kvs) : ∃ φ, H d = some (.ext φ) := by
  obtain ⟨xs, h1, _⟩ := h
  exact ⟨_, h1⟩
/-- a list is changed -/
theorem DAt.updL {P : Program} {w : World} {K : PySem.W.Frag} {H : Hp} {d D : Addr} {kvs : List (NestedKey × V)} {ys : List V} {o : HO} (h : DAt P w K H d kvs) (hD : H D = some (.lst ys)) : DAt P w K (upd H D o) d kvs := by
  obtain ⟨xs, h1, h2, h3⟩ := h
  refine ⟨xs, by rw [upd_ne (fun c => by rw [c, hD] at h1; cases h1)]; exact h1, fun x hx => ⟨NkAt.mono (fun a zs h => ?_) _ _ (h2 x hx).1, (h2 x hx).2⟩, h3⟩
  rcases h with (h | ⟨o, h⟩) | h
  · exact .inl (.inl (by rw [upd_ne (fun c => by rw [c, hD] at h; cases h)]; exact h))
  · exact .inl (.inr ⟨o, by rw [upd_ne (fun c => by rw [c, hD] at h; cases h)]; exact h⟩)
  · exact .inr h
section
variable {X : Cx} {pins : List (Addr × Obj)} {σ : L2.St} {H : Hp} {s : Shared}
theorem dat_of {a : Addr} {xs : List (NestedKey × Addr × V)} (I : Inv X pins σ H s) (e : H a = some (DN X.prog X.w a xs)) (hk : ∀ x ∈ xs, NkAt X.K H x.1 (.ref x.2.1) ∧ x.1.depth ≤ 8) :
    (a == sysModules) = false ∧ xs.length ≤ sizeLine ∧ ∃ ys, DRel xs ys ∧ s.heap.DictOfH (nestedKind X.prog X.w) a ys := by
  obtain ⟨h1, h2, ys, r, o, es, ep, e1, e2, e3, e4, e5⟩ := (I.hok a _ e).1
  refine ⟨h1, h2, ys, r, o, es, ep, e1, e2, e3, e4, ?_, e5⟩
  clear h2 e4 e5 e
  induction r with
  | nil => intro x hx; exact absurd hx List.not_mem_nil
  | @cons p q ps qs h t ih =>
    intro x hx
    rcases List.mem_cons.mp hx with rfl | hx
    · obtain ⟨z1, z2⟩ := hk p List.mem_cons_self
      rw [← h.1, ← h.2.1]
      exact ⟨nk_is I _ _ _ z1 rfl, z2⟩
    · exact ih (fun y hy => hk y (List.mem_cons_of_mem _ hy)) x hx
theorem nroom {A : Around} {P : Program} {w : World} (hu : A.units + 9 < cLine) : (nestedKind P w).room A.in1 := by
  show A.in1.units + 8 < cLine
  rw [Around.in1_units]
  omega
end
/-! the rules -/
def tDNewN (P : Program) (w : World) : TE := fun _ H Q => ∀ p, H p = none → Q (.ref p) (upd H p (DN P w p []))
def rGetDN (P : Program) (w : World) (K : PySem.W.Frag) : V → List V → Hp → VK → Prop := fun x args H Q => ∃ (d b : Addr) (z : V) (kvs : List (NestedKey × V)) (k : NestedKey), x = .ref d ∧ args = [.ref b, z] ∧ DAt P w K H d kvs ∧ NkAt K H k (.ref b) ∧ k.depth ≤ 8 ∧ Q ((valV kvs k).getD z) H
def rSetDN (P : Program) (w : World) (K : PySem.W.Frag) : V → V → V → Hp → (Hp → Prop) → Prop := fun o i v H Q => ∃ (d b : Addr) (kvs : List (NestedKey × V)) (k : NestedKey), o = .ref d ∧ i = .ref b ∧ DAt P w K H d kvs ∧ NkAt K H k (.ref b) ∧ k.depth ≤ 8 ∧ kvs.length < sizeLine ∧
  ∀ u, DAt P w K (upd H d u) d (putK kvs k v) → Q (upd H d u)
def rIxDN (P : Program) (w : World) (K : PySem.W.Frag) : R2 := fun x y H Q => ∃ (d b : Addr) (kvs : List (NestedKey × V)) (k : NestedKey) (v : V), x = .ref d ∧ y = .ref b ∧ DAt P w K H d kvs ∧ NkAt K H k (.ref b) ∧ k.depth ≤ 8 ∧ valV kvs k = some v ∧ Q v H
def tBMN (P : Program) (w : World) (r : V → List V → Hp → VK → Prop) (to : TE) (t : TA) : TE := fun σ H Q => to σ H fun x H1 => (∃ a xs, x = .ref a ∧ H1 a = some (DN P w a xs)) ∧ t σ H1 fun xs H2 => r x xs H2 Q
section
variable {X : Cx} {P : Program} {w : World} {K : PySem.W.Frag} {pos : Pos}
theorem pe_dnewN (hp : X.prog = P := by rfl) (hw : X.w = w := by rfl) : PE X (.Dict [] [] pos) (tDNewN P w) := by
  subst hp hw
  exact ⟨fun pins s σ H Q I h => wpAny_Dict_empty ⟨.ref s.heap.objs.size, _, I.laid (a := s.heap.objs.size) (o := DN X.prog X.w s.heap.objs.size []) (t' := s.toks) (fun _ _ q => Heap.get?_push_of_some _ q) (Nat.le_refl _)
    (dn_ok (beq_eq_false_iff_ne.mpr (Ne.symm (Nat.ne_of_lt I.big))) (Nat.zero_le _) .nil (Heap.DictOfH.new s.heap)), rfl, h _ (I.hok.fresh (Nat.le_refl _))⟩⟩
theorem mt_getDN (K : PySem.W.Frag) (hu : X.A.units + 9 < cLine) (hp : X.prog = P := by rfl) (hw : X.w = w := by rfl) (hk : X.K = K := by rfl) : MtR X "dict.get" (rGetDN P w K) := by
  subst hp hw hk
  intro pins s σ H x args v us Q I rx ra h
  obtain ⟨d, b, z, kvs, k, rfl, rfl, ⟨xs, e, hx, rfl⟩, hb, hd8, q⟩ := h
  obtain rfl : v = Value.ref d := rx
  cases ra with
  | cons r1 r2 =>
    cases r2 with
    | cons r2 r3 =>
      cases r3
      rename_i u1 u2
      obtain rfl : u1 = Value.ref b := r1
      obtain ⟨h1, h2, ys, r, dd⟩ := dat_of I e hx
      refine call_meetsIn PySem.F.slot_dict_get dd.typeIs PySem.F.entry_dict_get (PySem.F.args_dict_get_3 _ _ _) (meetsH_dict_get_default (nestedKind X.prog X.w) d b h1 u2) ⟨nroom hu, k, ys, ⟨nk_is I k _ _ hb rfl, hd8⟩, dd, _, H, I.tok _, (r.val k).getD r2, q⟩
theorem set_dN (K : PySem.W.Frag) (hu : X.A.units + 9 < cLine) (hp : X.prog = P := by rfl) (hw : X.w = w := by rfl) (hk : X.K = K := by rfl) : PSet X (rSetDN P w K) := by
  subst hp hw hk
  intro pins s σ H o i v ov iv u Q I ro ri rv h
  obtain ⟨d, b, kvs, k, rfl, rfl, ⟨xs, e, hx, rfl⟩, hb, hd8, hl, q⟩ := h
  obtain rfl : ov = Value.ref d := ro
  obtain rfl : iv = Value.ref b := ri
  obtain ⟨h1, h2, ys, r, dd⟩ := dat_of I e hx
  have hz : ys.length ≤ sizeLine := by rw [← Paired.length r]; exact h2
  refine wpAny_setItem_heap (hsz := hz) (nroom hu) (show (nestedKind X.prog X.w).is s.heap k b from ⟨nk_is I k _ _ hb rfl, hd8⟩) dd fun h' dd' hs => ?_
  have hl2 : (putN xs k b v).length ≤ sizeLine := by
    have l1 := length_putK (KN xs) k v
    rw [← KN_put xs k b v] at l1
    unfold KN at l1 hl
    rw [List.length_map, List.length_map] at l1
    rw [List.length_map] at hl
    omega
  have he : ∃ q, h'.get? d = some q := let ⟨q, _, _, hq, _⟩ := dd'; ⟨q, hq⟩
  refine ⟨upd H d (DN X.prog X.w d (putN xs k b v)), d_write I (by rw [e]; exact True.intro) hs he (dn_ok h1 hl2 (r.put k b rv) dd'), q _ ⟨putN xs k b v, upd_same, fun x hx2 => ?_, (KN_put xs k b v).symm⟩⟩
  have mo : ∀ a zs, SqT X.K H a zs → SqT X.K (upd H d (DN X.prog X.w d (putN xs k b v))) a zs := fun a zs h => SqT_updE h e
  rcases putN_mem hx2 with ⟨y, hy, e1, e2⟩ | ⟨e1, e2⟩
  · rw [e1, e2]
    exact ⟨NkAt.mono mo _ _ (hx y hy).1, (hx y hy).2⟩
  · rw [e1, e2]
    exact ⟨NkAt.mono mo _ _ hb, hd8⟩
theorem ix_dN (K : PySem.W.Frag) (hu : X.A.units + 9 < cLine) (hp : X.prog = P := by rfl) (hw : X.w = w := by rfl) (hk : X.K = K := by rfl) : IxR X (rIxDN P w K) := by
  subst hp hw hk
  intro value slice pins s σ H x y v u Q I rx ry h hs
  obtain ⟨d, b, kvs, k, z, rfl, rfl, ⟨xs, e, hx, rfl⟩, hb, hd8, hv, q⟩ := h
  obtain rfl : v = Value.ref d := rx
  obtain rfl : u = Value.ref b := ry
  obtain ⟨h1, h2, ys, r, dd⟩ := dat_of I e hx
  obtain ⟨w', hw, rw'⟩ := RelO.some_of (v := z) (o := (atKey ys k).map (·.2)) (by rw [← hv]; exact r.val k)
  obtain ⟨p, hp, hp2⟩ := Option.map_eq_some_iff.mp hw
  refine tail_any (ops := [.ref d, .ref b]) dd.typeIs PySem.F.slot_dict_getitem.lookup ?_ hs
  refine wpAny_getItem_heap (nroom hu) (show (nestedKind X.prog X.w).is s.heap k b from ⟨nk_is I k _ _ hb rfl, hd8⟩) dd hp ?_
  rw [hp2]
  exact ⟨z, H, I.tok _, rw', q⟩
theorem pe_bmN {name : Str} {id : String} {r : V → List V → Hp → VK → Prop} {o e : Expr} {es : List Expr} {to : TE} {t : TA} {apos cpos : Pos} (slot : Slot "dict" name id) (hty : typeOf (.builtin id) = pure (.type "method_descriptor")) (hm : MtR X id r) (ho : PE X o to) (ha : PA X (e :: es) t)
    (hp : X.prog = P := by rfl) (hw : X.w = w := by rfl)
    (hbase : attributeBase o name X.env (eval o X.env) = eval o X.env := by rfl)
    (hfew : ((backTo cpos (starEach (e :: es) X.env)).all (fun x => !x.1) && (backToKw cpos (keywordEach [] X.env)).all (fun x => x.1.isSome)
      && decide ((e :: es).length + ([] : List Keyword).length + (if ([] : List Keyword).isEmpty then 0 else 1) < 30)) = true := by rfl)
    (hline : (apos.endLine == cpos.line) = true := by rfl) (hs : starEach (e :: es) X.env = (false, eval e X.env) :: starEach es X.env := by rfl) (hplain : (backTo cpos (starEach es X.env)).any (·.1) = false := by rfl) :
    PE X (.Call (.Attribute o name apos) (e :: es) [] cpos) (tBMN P w r to t) := by
  subst hp hw
  refine ⟨fun pins s σ H Q I h => ?_⟩
  refine wpAny_Call_method_late hbase hfew hline rfl (thn (ho.run pins s σ H _ I h) fun v s1 ⟨x, H1, I1, r1, ⟨a, xs, ex, ea⟩, q1⟩ => ?_)
  subst ex
  obtain rfl : v = Value.ref a := r1
  obtain ⟨_, _, ys, _, oo, _, _, e1, e2, _⟩ := (I1.hok a _ ea).1
  refine ⟨"dict", id, PySem.F.plainAttrs_dict, slot, hty, ⟨oo, e1, e2.1⟩, fun b q => ?_, ?_⟩
  · cases q
    exact ⟨oo, e1, e2.2.1⟩
  have hA := ha.run cpos pins s1 σ H1 _ I1 q1
  rw [hs] at hA ⊢
  refine Calls.callWith_builtin (by show (false || (backTo cpos (starEach es X.env)).any (·.1)) = false; rw [hplain] <;> rfl) (Calls.evalArgs_plain ?_)
  exact thn hA fun us s2 ⟨vs, H2, I2, r2, q2⟩ => hm pins s2 σ H2 (.ref a) vs (.ref a) us Q I2 rfl r2 q2
end
/-! counting -/
def cntV : Option V → Int
  | some (.int i) => i
  | _ => 0
def tallyN (ks : List NestedKey) : List (NestedKey × V) := ks.foldl (fun acc k => putK acc k (.int (cntV (valV acc k) + 1))) []
theorem tally_snoc (ks : List NestedKey) (k : NestedKey) : tallyN (ks ++ [k]) = putK (tallyN ks) k (.int (cntV (valV (tallyN ks) k) + 1)) := by
  unfold tallyN
  rw [List.foldl_append]
  rfl
theorem tally_val : ∀ (n : Nat) (ks : List NestedKey), ks.length = n → ∀ k, valV (tallyN ks) k = if ks.count k = 0 then none else some (.int (ks.count k : Nat))
  | 0, ks, h, k => by
    rw [List.length_eq_zero_iff.mp h]
    rfl
  | n + 1, ks, h, k => by
    obtain ⟨l, x, rfl⟩ : ∃ l x, ks = l ++ [x] := ⟨ks.dropLast, ks.getLast (fun e => by rw [e] at h; cases h), (List.dropLast_concat_getLast _).symm⟩
    have hl : l.length = n := by
      rw [List.length_append] at h
      have : [x].length = 1 := rfl
      omega
    have ih := tally_val n l hl
    rw [tally_snoc]
    have ec : (l ++ [x]).count k = l.count k + if x = k then 1 else 0 := by
      rw [List.count_append, List.count_singleton]
      by_cases e : x = k
      · rw [if_pos e, if_pos (beq_iff_eq.mpr e)]
      · rw [if_neg e, if_neg (fun z => e (beq_iff_eq.mp z))]
    rw [valV_put]
    by_cases e : x = k
    · subst e
      rw [if_pos rfl, ec, if_pos rfl, if_neg (by omega), ih x]
      by_cases c : l.count x = 0
      · rw [if_pos c, c]
        rfl
      · rw [if_neg c]
        rfl
    · rw [if_neg (fun z => e z.symm), ec, if_neg e, Nat.add_zero]
      exact ih k
end Ef
set_option maxHeartbeats 4000000
namespace Ef
open PySem PySem.Spec PyProof.Rows L2
open PySem.W (dataLe AllAlike Sortable EachIs list_sort_data)
/-! ### such a dict, sorted; its values; its size -/
mutual
theorem nk_dp {K : PySem.W.Frag} {H : Hp} : ∀ (k : NestedKey) (v : V), NkAt K H k v → Dp K H v k.data
  | .none, _, h => by cases h
  | .num i, _, h => by
    cases h
    exact .int i
  | .text x, _, h => by cases h
  | .tup ks, _, h => by
    cases h with
    | tup h1 h2 => exact .tup h1 (nk_dpAll ks _ h2)
theorem nk_dpAll {K : PySem.W.Frag} {H : Hp} : ∀ (ks : List NestedKey) (vs : List V), NkAll K H ks vs → DpAll K H vs (NestedKey.datas ks)
  | [], _, h => by
    cases h
    exact .nil
  | k :: ks, _, h => by
    cases h with
    | cons h1 h2 => exact .cons (nk_dp k _ h1) (nk_dpAll ks _ h2)
end
section
variable {X : Cx} {pins : List (Addr × Obj)} {σ : L2.St} {H : Hp} {s : Shared}
mutual
theorem nk_reads (I : Inv X pins σ H s) : ∀ (k : NestedKey) (v : V) (u : Value), NkAt X.K H k v → RelV v u → Reads s.heap u k.data []
  | .none, _, _, h, _ => by cases h
  | .num i, _, u, h, r => by
    cases h
    obtain ⟨t, rfl⟩ := (show ∃ t, u = Value.int i t from r)
    exact .int i t
  | .text x, _, _, h, _ => by cases h
  | .tup ks, _, u, h, r => by
    cases h with
    | @tup a xs _ h1 h2 =>
      obtain rfl : u = Value.ref a := r
      obtain ⟨its, rv, ⟨o, ho, hc, n, hd⟩, _⟩ := I.tuple h1
      exact .tuple ho hc hd (by simpa using nk_readsAll I ks _ _ h2 rv)
theorem nk_readsAll (I : Inv X pins σ H s) : ∀ (ks : List NestedKey) (vs : List V) (us : List Value), NkAll X.K H ks vs → Vals vs us → ReadsAll s.heap us (NestedKey.datas ks) []
  | [], _, _, h, r => by
    cases h
    cases r
    exact .nil
  | k :: ks, _, _, h, r => by
    cases h with
    | cons h1 h2 =>
      cases r with
      | cons r1 r2 => exact .cons (nk_reads I k _ _ h1 r1) (nk_readsAll I ks _ _ h2 r2)
end
end
def nLe : NestedKey → NestedKey → Bool := dataLe false NestedKey.data
def rSortN (P : Program) (w : World) (K : PySem.W.Frag) : List V → Hp → VK → Prop := fun vs H Q => ∃ (d : Addr) (kvs : List (NestedKey × V)), vs = [V.ref d] ∧ DAt P w K H d kvs ∧ AllAlike ((kvs.map (·.1)).map NestedKey.data) ∧ Sortable ((kvs.map (·.1)).map NestedKey.data) ∧ (∀ k ∈ kvs.map (·.1), k.data.depth ≤ 20) ∧
  ∀ p us, H p = none → PySem.Paired (fun v k => NkAt K H k v) us ((kvs.map (·.1)).mergeSort nLe) → Q (.ref p) (upd H p (.lst us))
theorem drel_keys {acc : List Value} {xs : List (NestedKey × Addr × V)} {ys : List (NestedKey × Addr × Value)} (r : DRel xs ys) : ys.map (fun y => Value.ref y.2.1) = xs.map fun x => Value.ref x.2.1 := by
  induction r with
  | nil => rfl
  | cons h _ ih => rw [List.map_cons, List.map_cons, ih, h.2.1]
theorem each_refs {xs : List (NestedKey × Addr × V)} : EachIs (fun u (b : NestedKey × V) => RelV b.2 u) (xs.map fun x => Value.ref x.2.1) (xs.map fun x => (x.1, V.ref x.2.1)) := by
  induction xs with
  | nil => exact .nil
  | cons x r ih => exact .cons rfl ih
theorem each_read {X : Cx} {pins : List (Addr × Obj)} {σ : L2.St} {H : Hp} {s : Shared} {a : Addr} (I : Inv X pins σ H s) : ∀ {xs : List (NestedKey × Addr × V)}, (∀ x ∈ xs, NkAt X.K H x.1 (.ref x.2.1) ∧ x.1.depth ≤ 8) →
    EachIs (fun v (b : NestedKey × V) => ∃ as, Reads s.heap v b.1.data as ∧ a ∉ as) (xs.map fun x => Value.ref x.2.1) (xs.map fun x => (x.1, V.ref x.2.1))
  | [], _ => .nil
  | x :: xs, h => .cons ⟨[], nk_reads I _ _ _ (h x List.mem_cons_self).1 rfl, List.not_mem_nil⟩ (each_read I fun y hy => h y (List.mem_cons_of_mem _ hy))
theorem each_paired {bs : List (NestedKey × V)} {out : List Value} (e : EachIs (fun u (b : NestedKey × V) => RelV b.2 u) out bs) : Vals (bs.map (·.2)) out := by
  induction e with
  | nil => exact .nil
  | cons h _ ih => exact .cons h ih
theorem nk_paired {K : PySem.W.Frag} {H : Hp} : ∀ {bs : List (NestedKey × V)}, (∀ b ∈ bs, NkAt K H b.1 b.2) → PySem.Paired (fun v k => NkAt K H k v) (bs.map (·.2)) (bs.map (·.1))
  | [], _ => .nil
  | b :: r, h => .cons (h b List.mem_cons_self) (nk_paired fun c hc => h c (List.mem_cons_of_mem _ hc))
theorem keys_acc {P : Program} {w : World} {es : Array DictEntry} {ys : List (NestedKey × Addr × Value)} {acc : Array Value} (e4 : es.toList = ys.map (entryOfKey (nestedKind P w))) (h1 : acc.size = es.size) (h2 : ∀ (i : Nat) (v : Value), acc[i]? = some v → ∃ en : DictEntry, es[i]? = some en ∧ v = en.key) :
    acc.toList = ys.map fun x => Value.ref x.2.1 := by
  have l1 : es.size = ys.length := size_of_entries e4
  have hl : acc.toList.length = ys.length := by rw [Array.length_toList, h1]; exact l1
  apply List.ext_getElem?
  intro j
  rw [List.getElem?_map]
  cases hj : acc.toList[j]? with
  | none =>
    have h1 := List.getElem?_eq_none_iff.mp hj
    rw [List.getElem?_eq_none (by omega)]
    all_goals rfl
  | some v =>
    obtain ⟨en, hen, hv⟩ := h2 j v (by rw [← Array.getElem?_toList]; exact hj)
    have qe := entry_at e4 j
    rw [hen] at qe
    cases hb : ys[j]? with
    | none =>
      rw [hb] at qe
      exact nomatch (show some en = none from qe)
    | some b =>
      rw [hb] at qe
      have e2 : en = entryOfKey (nestedKind P w) b := Option.some.inj qe
      rw [hv, e2]
      all_goals rfl
section
variable {X : Cx} {P : Program} {w : World} {K : PySem.W.Frag}
theorem cr_sortN (K : PySem.W.Frag) (hc : X.calm = true) (hu : X.A.units + 64 < cLine) (hp : X.prog = P := by rfl) (hw : X.w = w := by rfl) (hk : X.K = K := by rfl) : CallR X (.builtin "sorted") (rSortN P w K) := by
  subst hp hw hk
  intro pins s σ H vs us Q I r hq
  obtain ⟨d, kvs, rfl, ⟨xs, e, hx, rfl⟩, hal, hso, hdp, q⟩ := hq
  obtain ⟨u, rfl, ru⟩ := vals1 r
  obtain rfl : u = Value.ref d := ru
  obtain ⟨h1, h2, ys, rel, o, es, ep, e1, e2, e3, e4, e5⟩ := (I.hok d _ e).1
  have l1 : es.size = ys.length := size_of_entries e4
  have l2 : xs.length = ys.length := PySem.Paired.length rel
  have ek : (KN xs).map (·.1) = (xs.map fun x => (x.1, V.ref x.2.1)).map (·.1) := by
    rw [List.map_map, List.map_map]
    rfl
  rw [ek] at hal hso hdp q
  refine Calls.call_function_entry PyProof.Rows.kind_sorted PyProof.Rows.plain_sorted PyProof.Rows.entry_sorted (PyProof.Rows.args_sorted1 _) ?_
  unfold Builtin.«sorted»
  refine wpAny_bind (m := checkCount "sorted" 1 1 _) (wpAny_pure ?_)
  refine wpAny_bind (PySem.W.kdu_collect (A := X.A.in1) (kdl_raw h1 e2 e3) (I.ok.hd hc) e1 (by omega) fun h' tk acc hk' hacc => ?_)
  have ea := (keys_acc e4 hacc.1 hacc.2).trans (drel_keys (acc := []) rel)
  have I1 : Inv X pins σ H { s with heap := h', toks := tk } := I.kept hk'
  rw [ea]
  refine wpAny_bind (wpAny_newList ?_ (by rw [List.length_map]; omega))
  have hoL : (h'.push (seqObj "list" (xs.map fun x => Value.ref x.2.1).toArray 0)).get? h'.objs.size = some (seqObj "list" (xs.map fun x => Value.ref x.2.1).toArray 0) := Heap.get?_push_size _ rfl
  show wpAny _ _ _ _ _ { s with heap := h'.push (seqObj "list" (xs.map fun x => Value.ref x.2.1).toArray 0), toks := tk }
  have I2 : Inv X pins σ H { s with heap := h'.push (seqObj "list" (xs.map fun x => Value.ref x.2.1).toArray 0), toks := tk } := I1.kept (t' := tk) fun b u e => Heap.get?_push_of_some _ e
  refine wpAny_bind (wpAny_holding (list_sort_data (s := { s with heap := h'.push (seqObj "list" (xs.map fun x => Value.ref x.2.1).toArray 0), toks := tk }) (β := NestedKey × V) (bs := xs.map fun x => (x.1, V.ref x.2.1)) (enc := fun b : NestedKey × V => b.1.data) (R := fun u (b : NestedKey × V) => RelV b.2 u) hoL each_refs (each_read I2 hx)
    (by rw [List.map_map] at hal; exact hal) (by rw [List.map_map] at hso; exact hso) (by rw [List.length_map]; omega) (fun b hb => ?_) fun out hout eo => ?_))
  · have hb2 : b.1 ∈ (xs.map fun x => (x.1, V.ref x.2.1)).map (·.1) := List.mem_map.mpr ⟨b, hb, rfl⟩
    have := hdp _ hb2
    show X.A.in1.units + 1 + _ < _
    rw [Around.in1_units]
    omega
  · obtain ⟨e', he'⟩ := PyProof.Rows.sortedHeap_at (vs := xs.map fun x => Value.ref x.2.1) (out := out.toArray) hoL
    have hv := each_paired eo
    have hlen : (((xs.map fun x => (x.1, V.ref x.2.1)).mergeSort (dataLe false fun b : NestedKey × V => b.1.data)).map (·.2)).length ≤ sizeLine := by
      rw [List.length_map, List.length_mergeSort, List.length_map]
      omega
    refine wpAny_pure ⟨_, rfl, .ref h'.objs.size, upd H h'.objs.size (.lst (((xs.map fun x => (x.1, V.ref x.2.1)).mergeSort (dataLe false fun b : NestedKey × V => b.1.data)).map (·.2))), I1.laid (t' := tk) (fun b u e => ?_) (Nat.le_refl _)
      (show ObjOk X.prog X.w _ _ _ (.lst _) from ⟨hlen, out, e', hv, he'⟩), rfl, q _ _ (I1.hok.fresh (Nat.le_refl _)) ?_⟩
    · have hb : b < h'.objs.size := Heap.lt_size e
      rw [PyProof.Rows.sortedHeap_old (Nat.ne_of_lt hb) (by rw [size_push']; exact Nat.lt_succ_of_lt hb)]
      exact Heap.get?_push_of_some _ e
    · have em : ((xs.map fun x => (x.1, V.ref x.2.1)).mergeSort (dataLe false fun b : NestedKey × V => b.1.data)).map (·.1) = ((xs.map fun x => (x.1, V.ref x.2.1)).map (·.1)).mergeSort nLe := List.map_mergeSort fun a _ b _ => rfl
      rw [← em]
      have all : ∀ b ∈ (xs.map fun x => (x.1, V.ref x.2.1)).mergeSort (dataLe false fun b : NestedKey × V => b.1.data), NkAt X.K H b.1 b.2 := fun b hb => by
        obtain ⟨x, hx2, rfl⟩ := List.mem_map.mp ((List.mergeSort_perm _ _).mem_iff.mp hb)
        exact (hx x hx2).1
      exact nk_paired all
/-- len(d) -/
def rLenN (P : Program) (w : World) (K : PySem.W.Frag) : List V → Hp → VK → Prop := fun vs H Q => ∃ (d : Addr) (kvs : List (NestedKey × V)), vs = [V.ref d] ∧ DAt P w K H d kvs ∧ Q (.int (kvs.length : Nat)) H
theorem call_lenN (K : PySem.W.Frag) (hp : X.prog = P := by rfl) (hw : X.w = w := by rfl) (hk : X.K = K := by rfl) : CallR X (.builtin "len") (rLenN P w K) := by
  subst hp hw hk
  intro pins s σ H vs us Q I r hq
  obtain ⟨d, kvs, rfl, ⟨xs, e, hx, rfl⟩, q⟩ := hq
  obtain ⟨u, rfl, ru⟩ := vals1 r
  obtain rfl : u = Value.ref d := ru
  obtain ⟨h1, h2, ys, rel, dd⟩ := dat_of I e hx
  have l2 : xs.length = ys.length := PySem.Paired.length rel
  refine call_len_dictH h1 dd (by rw [sizeLine_eq] at h2; omega) ?_
  refine ⟨.int ((KN xs).length : Nat), H, I.tok _, ⟨s.toks + 1, ?_⟩, q⟩
  unfold KN
  rw [List.length_map, l2]
/-- d.values() -/
def tValsN (P : Program) (w : World) (to : TE) : TE := fun σ H Q => to σ H fun x H1 => ∃ a xs, x = .ref a ∧ H1 a = some (DN P w a xs) ∧ ∀ p, H1 p = none → Q (.ref p) (upd H1 p (viewO "dict_values" p a))
theorem pe_valsN {o : Expr} {to : TE} {apos cpos : Pos} (ho : PE X o to) (hp : X.prog = P := by rfl) (hw : X.w = w := by rfl) (hbase : attributeBase o "values" X.env (eval o X.env) = eval o X.env := by rfl) (hline : (apos.endLine == cpos.line) = true := by rfl) :
    PE X (.Call (.Attribute o "values" apos) [] [] cpos) (tValsN P w to) := by
  subst hp hw
  refine ⟨fun pins s σ H Q I h => ?_⟩
  refine wpAny_Call_method0_late hbase hline (thn (ho.run pins s σ H _ I h) fun v s1 ⟨x, H1, I1, r1, a, xs, ex, ea, q1⟩ => ?_)
  subst ex
  obtain rfl : v = Value.ref a := r1
  obtain ⟨h1, _, ys, _, oo, es, ep, e1, e2, e3, _⟩ := (I1.hok a _ ea).1
  refine ⟨"dict", "dict.values", PySem.F.plainAttrs_dict, PySem.F.slot_dict_values, PySem.F.type_dict_values, ⟨oo, e1, e2.1⟩, fun b q => ?_, Calls.callWith_builtin rfl (PySem.evalArgs_none ?_)⟩
  · cases q
    exact ⟨oo, e1, e2.2.1⟩
  refine call_meetsIn PySem.F.slot_dict_values ⟨oo, e1, e2.1⟩ PySem.F.entry_dict_values (PySem.F.args_dict_values_1 _) (meets_dict_values_raw a h1) ⟨⟨es, ep, oo, e1, e2, e3⟩, ?_⟩
  exact ⟨.ref s1.heap.objs.size, _, I1.laid (t' := s1.toks) (fun b o q => Heap.get?_push_of_some _ q) (Nat.le_refl _) (viewO_ok (Heap.get?_push_size _ rfl)), rfl, q1 _ (I1.hok.fresh (Nat.le_refl _))⟩
/-- the values as entries -/
theorem vals_ent {es : Array DictEntry} {ys : List (NestedKey × Addr × Value)} {xs : List (NestedKey × Addr × V)} {ns : List Int} (e4 : es.toList = ys.map (entryOfKey (nestedKind P w))) (rel : DRel xs ys) (hns : (KN xs).map (·.2) = ns.map V.int) : es.size = ns.length ∧ ∀ (i : Nat) (e : DictEntry), es[i]? = some e → ∃ t, e.val = .int (ns.getD i 0) t := by
  have l1 : es.size = ys.length := size_of_entries e4
  have l2 : xs.length = ys.length := PySem.Paired.length rel
  have l3 : xs.length = ns.length := by
    have e := congrArg List.length hns
    rw [List.length_map, List.length_map, List.length_map] at e
    exact e
  refine ⟨by omega, fun i e he => ?_⟩
  have qe := entry_at e4 i
  rw [he] at qe
  cases hb : ys[i]? with
  | none =>
    rw [hb] at qe
    exact nomatch (show some e = none from qe)
  | some b =>
    rw [hb] at qe
    have e2 : e = entryOfKey (nestedKind P w) b := Option.some.inj qe
    have hi : i < ys.length := (List.getElem?_eq_some_iff.mp hb).1
    have hx : xs[i]? = some xs[i] := List.getElem?_eq_getElem (by omega)
    rcases paired_at rel i with ⟨z, _⟩ | ⟨x, y, z1, z2, z3⟩
    · rw [hx] at z
      cases z
    · rw [hb] at z2
      obtain rfl := Option.some.inj z2
      have z4 : ((KN xs).map (·.2))[i]? = some x.2.2 := by
        unfold KN
        rw [List.map_map, List.getElem?_map, z1]
        rfl
      rw [hns, List.getElem?_map] at z4
      obtain ⟨j, hj, ej⟩ := Option.map_eq_some_iff.mp z4
      have r3 := z3.2.2
      rw [← ej] at r3
      obtain ⟨t, et⟩ := (show ∃ t, b.2.2 = Value.int j t from r3)
      refine ⟨t, ?_⟩
      rw [e2]
      show b.2.2 = _
      rw [et, List.getD_eq_getElem?_getD, hj]
      rfl
def rMaxN (P : Program) (w : World) (K : PySem.W.Frag) : List V → Hp → VK → Prop := fun xs H Q => ∃ (p a : Addr) (kvs : List (NestedKey × V)) (ns : List Int), xs = [.ref p] ∧ H p = some (viewO "dict_values" p a) ∧ DAt P w K H a kvs ∧ kvs.map (·.2) = ns.map V.int ∧ 0 < ns.length ∧ ∀ m, m ∈ ns → (∀ y, y ∈ ns → y ≤ m) → Q (.int m) H
def rMinN (P : Program) (w : World) (K : PySem.W.Frag) : List V → Hp → VK → Prop := fun xs H Q => ∃ (p a : Addr) (kvs : List (NestedKey × V)) (ns : List Int), xs = [.ref p] ∧ H p = some (viewO "dict_values" p a) ∧ DAt P w K H a kvs ∧ kvs.map (·.2) = ns.map V.int ∧ 0 < ns.length ∧ ∀ m, m ∈ ns → (∀ y, y ∈ ns → m ≤ y) → Q (.int m) H
def rSumN (P : Program) (w : World) (K : PySem.W.Frag) : List V → Hp → VK → Prop := fun xs H Q => ∃ (p a : Addr) (kvs : List (NestedKey × V)) (ns : List Int), xs = [.ref p] ∧ H p = some (viewO "dict_values" p a) ∧ DAt P w K H a kvs ∧ kvs.map (·.2) = ns.map V.int ∧ Q (.int ns.sum) H
theorem cr_maxN (K : PySem.W.Frag) (hc : X.calm = true) (hp : X.prog = P := by rfl) (hw : X.w = w := by rfl) (hk : X.K = K := by rfl) : CallR X (.builtin "max") (rMaxN P w K) := by
  subst hp hw hk
  intro pins s σ H xs us Q I rx h
  obtain ⟨p, a, kvs, ns, rfl, hpp, ⟨xs, e, hx, rfl⟩, hns, hne, q⟩ := h
  obtain ⟨u, rfl, ru⟩ := vals1 rx
  obtain rfl : u = Value.ref p := ru
  obtain ⟨h1, h2, ys, rel, o, es, ep, e1, e2, e3, e4, e5⟩ := (I.hok a _ e).1
  obtain ⟨hsz, hP⟩ := vals_ent e4 rel hns
  have hv : s.heap.get? p = some (DSub.viewOb "dict_values" a) := (show ObjOk X.prog X.w H s.heap p (viewO "dict_values" p a) from I.hok p _ hpp).1
  refine call_max_walk ?_
  refine DSub.iter_vals hv e1 e3 ?_
  have ha : a < s.heap.objs.size := Heap.lt_size e1
  refine ⟨s.heap.objs.size, [s.heap.objs.size, a], [s.heap.objs.size], es.size, fun i v => ∃ t, v = .int (ns.getD i 0) t, _, fun i j => decide (ns.getD i 0 > ns.getD j 0), rfl, DSub.walksVal (a := a) (show X.A.in1.handled = none from I.ok.hd hc) (Nat.ne_of_lt ha) e3 hP, ⟨Heap.get?_push_size _ rfl, Heap.get?_push_of_some _ e1⟩, fun b hb => ?_, by omega, CmpOf.ints_gt (fun i => ns.getD i 0) (fun i v z => z), fun v h' tk hv' hk => ?_⟩
  · show b < (s.heap.push _).objs.size
    rw [size_push']
    rcases List.mem_cons.mp hb with z | z
    · rw [z]
      exact Nat.lt_succ_self _
    · rw [List.mem_singleton.mp z]
      exact Nat.lt_succ_of_lt ha
  · obtain ⟨t, rfl⟩ := hv'
    obtain ⟨m1', m2'⟩ := argBest_gt (fun i => ns.getD i 0) (es.size - 1)
    have m1 : argBest (fun i j => decide (ns.getD i 0 > ns.getD j 0)) (es.size - 1) ≤ es.size - 1 := m1'
    have m2 : ∀ j, j ≤ es.size - 1 → ns.getD j 0 ≤ ns.getD (argBest (fun i j => decide (ns.getD i 0 > ns.getD j 0)) (es.size - 1)) 0 := m2'
    have hk2 : ∀ b o, s.heap.get? b = some o → h'.get? b = some o := fun b o e => hk b o (fun z => by rw [List.mem_singleton.mp z] at e; exact absurd (Heap.lt_size e) (Nat.lt_irrefl _)) (Heap.get?_push_of_some _ e)
    refine ⟨.int _, H, I.kept (t' := tk) hk2, ⟨t, rfl⟩, q _ (PySem.getD_mem (by omega)) fun y hy => ?_⟩
    obtain ⟨j, hj, e⟩ := List.mem_iff_getElem.mp hy
    have z := m2 j (by omega)
    have e3 : ns.getD j 0 = y := by rw [List.getD_eq_getElem?_getD, List.getElem?_eq_getElem hj, ← e] <;> rfl
    rw [e3] at z
    exact z
theorem cr_minN (K : PySem.W.Frag) (hc : X.calm = true) (hp : X.prog = P := by rfl) (hw : X.w = w := by rfl) (hk : X.K = K := by rfl) : CallR X (.builtin "min") (rMinN P w K) := by
  subst hp hw hk
  intro pins s σ H xs us Q I rx h
  obtain ⟨p, a, kvs, ns, rfl, hpp, ⟨xs, e, hx, rfl⟩, hns, hne, q⟩ := h
  obtain ⟨u, rfl, ru⟩ := vals1 rx
  obtain rfl : u = Value.ref p := ru
  obtain ⟨h1, h2, ys, rel, o, es, ep, e1, e2, e3, e4, e5⟩ := (I.hok a _ e).1
  obtain ⟨hsz, hP⟩ := vals_ent e4 rel hns
  have hv : s.heap.get? p = some (DSub.viewOb "dict_values" a) := (show ObjOk X.prog X.w H s.heap p (viewO "dict_values" p a) from I.hok p _ hpp).1
  refine call_min_walk ?_
  refine DSub.iter_vals hv e1 e3 ?_
  have ha : a < s.heap.objs.size := Heap.lt_size e1
  refine ⟨s.heap.objs.size, [s.heap.objs.size, a], [s.heap.objs.size], es.size, fun i v => ∃ t, v = .int (ns.getD i 0) t, _, fun i j => decide (ns.getD i 0 < ns.getD j 0), rfl, DSub.walksVal (a := a) (show X.A.in1.handled = none from I.ok.hd hc) (Nat.ne_of_lt ha) e3 hP, ⟨Heap.get?_push_size _ rfl, Heap.get?_push_of_some _ e1⟩, fun b hb => ?_, by omega, CmpOf.ints_lt (fun i => ns.getD i 0) (fun i v z => z), fun v h' tk hv' hk => ?_⟩
  · show b < (s.heap.push _).objs.size
    rw [size_push']
    rcases List.mem_cons.mp hb with z | z
    · rw [z]
      exact Nat.lt_succ_self _
    · rw [List.mem_singleton.mp z]
      exact Nat.lt_succ_of_lt ha
  · obtain ⟨t, rfl⟩ := hv'
    obtain ⟨m1', m2'⟩ := argBest_lt (fun i => ns.getD i 0) (es.size - 1)
    have m1 : argBest (fun i j => decide (ns.getD i 0 < ns.getD j 0)) (es.size - 1) ≤ es.size - 1 := m1'
    have m2 : ∀ j, j ≤ es.size - 1 → ns.getD (argBest (fun i j => decide (ns.getD i 0 < ns.getD j 0)) (es.size - 1)) 0 ≤ ns.getD j 0 := m2'
    have hk2 : ∀ b o, s.heap.get? b = some o → h'.get? b = some o := fun b o e => hk b o (fun z => by rw [List.mem_singleton.mp z] at e; exact absurd (Heap.lt_size e) (Nat.lt_irrefl _)) (Heap.get?_push_of_some _ e)
    refine ⟨.int _, H, I.kept (t' := tk) hk2, ⟨t, rfl⟩, q _ (PySem.getD_mem (by omega)) fun y hy => ?_⟩
    obtain ⟨j, hj, e⟩ := List.mem_iff_getElem.mp hy
    have z := m2 j (by omega)
    have e3 : ns.getD j 0 = y := by rw [List.getD_eq_getElem?_getD, List.getElem?_eq_getElem hj, ← e] <;> rfl
    rw [e3] at z
    exact z
theorem pre_sum : ∀ (ns : List Int), preSum (fun i => ns.getD i 0) ns.length = ns.sum
  | [] => rfl
  | n :: ns => by
    show preSum (fun i => (n :: ns).getD i 0) (ns.length + 1) = n + ns.sum
    rw [PySem.W.kdu_shift, ← pre_sum ns]
    rfl
theorem cr_sumN (K : PySem.W.Frag) (hc : X.calm = true) (hp : X.prog = P := by rfl) (hw : X.w = w := by rfl) (hk : X.K = K := by rfl) : CallR X (.builtin "sum") (rSumN P w K) := by
  subst hp hw hk
  intro pins s σ H xs us Q I rx h
  obtain ⟨p, a, kvs, ns, rfl, hpp, ⟨xs, e, hx, rfl⟩, hns, q⟩ := h
  obtain ⟨u, rfl, ru⟩ := vals1 rx
  obtain rfl : u = Value.ref p := ru
  obtain ⟨h1, h2, ys, rel, o, es, ep, e1, e2, e3, e4, e5⟩ := (I.hok a _ e).1
  obtain ⟨hsz, hP⟩ := vals_ent e4 rel hns
  have hv : s.heap.get? p = some (DSub.viewOb "dict_values" a) := (show ObjOk X.prog X.w H s.heap p (viewO "dict_values" p a) from I.hok p _ hpp).1
  refine call_sum_walkAnyS ?_
  refine DSub.iter_vals hv e1 e3 ?_
  have ha : a < s.heap.objs.size := Heap.lt_size e1
  refine ⟨s.heap.objs.size, [s.heap.objs.size, a], [s.heap.objs.size], _, es.size, fun i v => ∃ t, v = .int (ns.getD i 0) t, _, fun i => ns.getD i 0, rfl, (DSub.walksVal (a := a) (show X.A.in1.handled = none from I.ok.hd hc) (Nat.ne_of_lt ha) e3 hP).toS, ⟨Heap.get?_push_size _ rfl, Heap.get?_push_of_some _ e1⟩, fun b hb => ?_, fun i v z => z, fun s' t' hm => ?_⟩
  · show b < (s.heap.push _).objs.size
    rw [size_push']
    rcases List.mem_cons.mp hb with z | z
    · rw [z]
      exact Nat.lt_succ_self _
    · rw [List.mem_singleton.mp z]
      exact Nat.lt_succ_of_lt ha
  · have hk : ∀ b o, s.heap.get? b = some o → s'.heap.get? b = some o := fun b o e =>
      hm.heap b o (fun hI => absurd (Heap.lt_size e) (by rw [List.mem_singleton.mp hI]; exact Nat.lt_irrefl _)) (Heap.get?_push_of_some _ e)
    rw [Moved.eq_with hm]
    refine ⟨.int ns.sum, H, I.kept (h' := s'.heap) (t' := s'.toks) hk, ⟨t', ?_⟩, q⟩
    rw [hsz, pre_sum]
end
end Ef
set_option maxHeartbeats 4000000
namespace Ef
open PySem PySem.Spec PyProof.Rows L2
/-! ### what is counted -/
theorem valV_mem {κ : Type} [DecidableEq κ] : ∀ {kvs : List (κ × V)} {k : κ} {v : V}, (kvs.map (·.1)).Nodup → (k, v) ∈ kvs → valV kvs k = some v
  | [], _, _, _, h => absurd h List.not_mem_nil
  | p :: r, k, v, hn, h => by
    rw [List.map_cons] at hn
    obtain ⟨h1, h2⟩ := List.nodup_cons.mp hn
    by_cases e : p.1 = k
    · rw [valV_pos e]
      rcases List.mem_cons.mp h with z | z
      · rw [← z]
      · exact absurd (List.mem_map.mpr ⟨(k, v), z, rfl⟩) (by rw [← e]; exact h1)
    · rw [valV_neg e]
      rcases List.mem_cons.mp h with z | z
      · exact absurd (by rw [← z]) e
      · exact valV_mem h2 z
theorem valV_some {κ : Type} [DecidableEq κ] : ∀ {kvs : List (κ × V)} {k : κ}, (valV kvs k).isSome = true ↔ k ∈ kvs.map (·.1)
  | [], k => by
    constructor
    · intro h
      cases h
    · intro h
      exact absurd h List.not_mem_nil
  | p :: r, k => by
    rw [List.map_cons, List.mem_cons]
    by_cases e : p.1 = k
    · rw [valV_pos e]
      exact ⟨fun _ => .inl e.symm, fun _ => rfl⟩
    · rw [valV_neg e, valV_some (kvs := r)]
      exact ⟨.inr, fun h => h.resolve_left fun z => e z.symm⟩
theorem putK_keys {κ : Type} [DecidableEq κ] (kvs : List (κ × V)) (k : κ) (v : V) : (putK kvs k v).map (·.1) = if k ∈ kvs.map (·.1) then kvs.map (·.1) else kvs.map (·.1) ++ [k] := by
  unfold putK
  rw [valV_any]
  by_cases c : k ∈ kvs.map (·.1)
  · rw [if_pos c, if_pos (valV_some.mpr c), List.map_map]
    refine List.map_congr_left fun x _ => ?_
    show (if x.1 = k then (x.1, v) else x).1 = x.1
    by_cases e : x.1 = k
    · rw [if_pos e]
    · rw [if_neg e]
  · rw [if_neg c, if_neg (fun z => c (valV_some.mp z)), List.map_append]
    rfl
theorem tally_nodup : ∀ (n : Nat) (ks : List NestedKey), ks.length = n → ((tallyN ks).map (·.1)).Nodup
  | 0, ks, h => by
    rw [List.length_eq_zero_iff.mp h]
    exact List.nodup_nil
  | n + 1, ks, h => by
    obtain ⟨l, x, rfl⟩ : ∃ l x, ks = l ++ [x] := ⟨ks.dropLast, ks.getLast (fun e => by rw [e] at h; cases h), (List.dropLast_concat_getLast _).symm⟩
    have hl : l.length = n := by
      rw [List.length_append] at h
      have : [x].length = 1 := rfl
      omega
    have ih := tally_nodup n l hl
    rw [tally_snoc, putK_keys]
    split
    · exact ih
    · rename_i c
      refine List.nodup_append.mpr ⟨ih, List.nodup_cons.mpr ⟨List.not_mem_nil, List.nodup_nil⟩, fun a ha b hb e => ?_⟩
      rw [List.mem_singleton.mp hb] at e
      exact c (e ▸ ha)
theorem tally_keys (ks : List NestedKey) (k : NestedKey) : k ∈ (tallyN ks).map (·.1) ↔ k ∈ ks := by
  rw [← valV_some, tally_val _ _ rfl]
  by_cases c : ks.count k = 0
  · rw [if_pos c]
    constructor
    · intro h
      cases h
    · intro h
      exact absurd (List.count_pos_iff.mpr h) (by omega)
  · rw [if_neg c]
    exact ⟨fun _ => List.count_pos_iff.mp (by omega), fun _ => rfl⟩
/-- the pairs, by their keys -/
theorem tally_eq (ks : List NestedKey) : tallyN ks = ((tallyN ks).map (·.1)).map fun k => (k, V.int (ks.count k : Nat)) := by
  have hn := tally_nodup _ ks rfl
  have hv := tally_val _ ks rfl
  rw [List.map_map]
  conv => lhs; rw [← List.map_id (tallyN ks)]
  refine List.map_congr_left fun p hp => ?_
  have h1 := valV_mem (k := p.1) (v := p.2) hn hp
  rw [hv] at h1
  split at h1
  · cases h1
  · have h2 := Option.some.inj h1
    show p = (p.1, _)
    rw [h2]
theorem tally_snd (ks : List NestedKey) : (tallyN ks).map (·.2) = (((tallyN ks).map (·.1)).map fun k => ((ks.count k : Nat) : Int)).map V.int := by
  conv => lhs; rw [tally_eq ks]
  rw [List.map_map, List.map_map, List.map_map, List.map_map]
  rfl
theorem sum_oneG {α : Type} [DecidableEq α] {c : α} : ∀ {cs : List α}, cs.Nodup → c ∈ cs → (cs.map fun d => if c = d then 1 else 0).sum = 1
  | [], _, h => absurd h List.not_mem_nil
  | d :: cs, hn, h => by
    obtain ⟨h1, h2⟩ := List.nodup_cons.mp hn
    rw [List.map_cons, List.sum_cons]
    by_cases e : c = d
    · subst e
      have z : ∀ (l : List α), c ∉ l → (l.map fun d => if c = d then 1 else 0).sum = 0 := by
        intro l
        induction l with
        | nil => intro _; rfl
        | cons a l ih =>
          intro hh
          rw [List.map_cons, List.sum_cons, if_neg (fun z : c = a => hh (by rw [z]; exact List.mem_cons_self)), ih fun z => hh (List.mem_cons_of_mem _ z)]
      rw [if_pos rfl, z cs h1]
    · rw [if_neg e, sum_oneG h2 ((List.mem_cons.mp h).resolve_left e)]
theorem sum_addG {α : Type} (f g : α → Nat) : ∀ l : List α, (l.map fun x => f x + g x).sum = (l.map f).sum + (l.map g).sum
  | [] => rfl
  | a :: l => by
    rw [List.map_cons, List.sum_cons, List.map_cons, List.sum_cons, List.map_cons, List.sum_cons, sum_addG f g l]
    omega
theorem sum_countsG {α : Type} [DecidableEq α] {cs : List α} (hn : cs.Nodup) : ∀ {ks : List α}, (∀ k ∈ ks, k ∈ cs) → (cs.map fun c => ks.count c).sum = ks.length
  | [], _ => by
    have : ∀ l : List α, (l.map fun c => ([] : List α).count c).sum = 0 := by
      intro l
      induction l with
      | nil => rfl
      | cons a l ih => rw [List.map_cons, List.sum_cons, ih]; rfl
    exact this cs
  | k :: ks, h => by
    have e : (fun c => (k :: ks).count c) = fun c => ks.count c + if k = c then 1 else 0 := by
      funext c
      rw [List.count_cons]
      congr 1
      by_cases z : k = c
      · rw [if_pos z, if_pos (beq_iff_eq.mpr z)]
      · rw [if_neg z, if_neg (fun y => z (beq_iff_eq.mp y))]
    rw [e, sum_addG, sum_countsG hn fun x hx => h x (List.mem_cons_of_mem _ hx), sum_oneG hn (h k List.mem_cons_self)]
    rfl
theorem sum_ints {α : Type} (f : α → Nat) : ∀ l : List α, (l.map fun k => ((f k : Nat) : Int)).sum = (((l.map f).sum : Nat) : Int)
  | [] => rfl
  | a :: l => by rw [List.map_cons, List.sum_cons, List.map_cons, List.sum_cons, sum_ints f l, Int.natCast_add]
theorem tally_sum (ks : List NestedKey) : (((tallyN ks).map (·.1)).map fun k => ((ks.count k : Nat) : Int)).sum = (ks.length : Int) := by
  rw [sum_ints]
  exact congrArg Int.ofNat (sum_countsG (tally_nodup _ ks rfl) fun k hk => (tally_keys ks k).mpr hk)
/-! of keys that tell what they are made of -/
theorem map_countG {α : Type} [DecidableEq α] (f : α → NestedKey) (inj : ∀ a b, f a = f b → a = b) (ks : List α) (c : α) : (ks.map f).count (f c) = ks.count c := by
  induction ks with
  | nil => rfl
  | cons k r ih =>
    rw [List.map_cons, List.count_cons, List.count_cons, ih]
    congr 1
    by_cases e : k = c
    · rw [e, if_pos (beq_self_eq_true _), if_pos (beq_self_eq_true _)]
    · rw [if_neg (fun z => e (inj _ _ (beq_iff_eq.mp z))), if_neg (fun z => e (beq_iff_eq.mp z))]
theorem tally_getG {α : Type} [DecidableEq α] (f : α → NestedKey) (inj : ∀ a b, f a = f b → a = b) (ks : List α) (c : α) : (valV (tallyN (ks.map f)) (f c)).getD (.int 0) = .int (ks.count c : Nat) := by
  rw [tally_val _ _ rfl, map_countG f inj]
  by_cases e : ks.count c = 0
  · rw [if_pos e, e]
    rfl
  · rw [if_neg e]
    rfl
theorem tally_oneG {α : Type} [DecidableEq α] (f : α → NestedKey) (inj : ∀ a b, f a = f b → a = b) (ks : List α) (c : α) : putK (tallyN (ks.map f)) (f c) (.int ((ks.count c : Nat) + 1)) = tallyN ((ks ++ [c]).map f) := by
  rw [List.map_append]
  show _ = tallyN (ks.map f ++ [f c])
  rw [tally_snoc]
  congr 2
  congr 1
  rw [tally_val _ _ rfl, map_countG f inj]
  by_cases e : ks.count c = 0
  · rw [if_pos e, e]
    rfl
  · rw [if_neg e]
    rfl
theorem tally_lenG (ks : List NestedKey) : (tallyN ks).length ≤ ks.length := by
  unfold tallyN
  have g : ∀ (ks : List NestedKey) (acc : List (NestedKey × V)), (ks.foldl (fun acc k => putK acc k (.int (cntV (valV acc k) + 1))) acc).length ≤ acc.length + ks.length := by
    intro ks
    induction ks with
    | nil => intro acc; exact Nat.le_refl _
    | cons k r ih =>
      intro acc
      rw [List.foldl_cons]
      have h1 := ih (putK acc k (.int (cntV (valV acc k) + 1)))
      have h2 := length_putK acc k (.int (cntV (valV acc k) + 1))
      rw [List.length_cons]
      omega
  have := g ks []
  rw [List.length_nil] at this
  omega
end Ef
set_option maxHeartbeats 4000000
namespace Ef
open PySem PySem.Spec PyProof.Rows L2 PySem.W
/-! ### d.setdefault(k, z) and d.pop(k), of a dict whose keys are tuples of tuples -/
def rSetdDN (P : Program) (w : World) (K : PySem.W.Frag) : V → List V → Hp → VK → Prop := fun x args H Q => ∃ (d b : Addr) (z : V) (kvs : List (NestedKey × V)) (k : NestedKey), x = .ref d ∧ args = [.ref b, z] ∧ DAt P w K H d kvs ∧ NkAt K H k (.ref b) ∧ k.depth ≤ 8 ∧ kvs.length < sizeLine ∧
  (∀ v, valV kvs k = some v → Q v H) ∧ (valV kvs k = none → ∀ u, DAt P w K (upd H d u) d (putK kvs k z) → Q z (upd H d u))
def rPopDN (P : Program) (w : World) (K : PySem.W.Frag) : V → List V → Hp → VK → Prop := fun x args H Q => ∃ (d b : Addr) (kvs : List (NestedKey × V)) (k : NestedKey) (v : V), x = .ref d ∧ args = [.ref b] ∧ DAt P w K H d kvs ∧ NkAt K H k (.ref b) ∧ k.depth ≤ 8 ∧ valV kvs k = some v ∧
  ∀ u, DAt P w K (upd H d u) d (dropK kvs k) → Q v (upd H d u)
def dropN (xs : List (NestedKey × Addr × V)) (k : NestedKey) : List (NestedKey × Addr × V) := xs.filter fun x => decide (x.1 ≠ k)
theorem KN_drop (xs : List (NestedKey × Addr × V)) (k : NestedKey) : KN (dropN xs k) = dropK (KN xs) k := by
  unfold KN dropN dropK
  rw [List.filter_map]
  rfl
theorem DRel.drop {xs : List (NestedKey × Addr × V)} {ys : List (NestedKey × Addr × Value)} (r : DRel xs ys) (k : NestedKey) : DRel (dropN xs k) (withoutH ys k) := by
  induction r with
  | nil => exact .nil
  | @cons p q ps qs h t ih =>
    have h1 : p.1 = q.1 := h.1
    by_cases e : p.1 = k
    · have z1 : dropN (p :: ps) k = dropN ps k := List.filter_cons_of_neg (by simp [e])
      have z2 : withoutH (q :: qs) k = withoutH qs k := List.filter_cons_of_neg (by simp [← h1, e])
      rw [z1, z2]
      exact ih
    · have z1 : dropN (p :: ps) k = p :: dropN ps k := List.filter_cons_of_pos (by simp [e])
      have z2 : withoutH (q :: qs) k = q :: withoutH qs k := List.filter_cons_of_pos (by simp [← h1, e])
      rw [z1, z2]
      exact .cons h ih
section
variable {X : Cx} {P : Program} {w : World}
theorem mt_setdDN (K : PySem.W.Frag) (hu : X.A.units + 9 < cLine) (hp : X.prog = P := by rfl) (hw : X.w = w := by rfl) (hk : X.K = K := by rfl) : MtR X "dict.setdefault" (rSetdDN P w K) := by
  subst hp hw hk
  intro pins s σ H x args v us Q I rx ra h
  obtain ⟨d, b, z, kvs, k, rfl, rfl, ⟨xs, e, hx, rfl⟩, hb, hd8, hl, q1, q2⟩ := h
  obtain rfl : v = Value.ref d := rx
  cases ra with
  | cons r1 r2 =>
    cases r2 with
    | cons r2 r3 =>
      cases r3
      rename_i u1 u2
      obtain rfl : u1 = Value.ref b := r1
      obtain ⟨h1, h2, ys, r, dd⟩ := dat_of I e hx
      have hz : ys.length ≤ sizeLine := by rw [← Paired.length r]; exact h2
      have rv := r.val k
      refine call_meetsIn PySem.F.slot_dict_setdefault dd.typeIs PySem.F.entry_dict_setdefault (PySem.F.args_dict_setdefault_3 _ _ _) (meetsH_dict_setdefault (nestedKind X.prog X.w) d b h1 u2) ⟨nroom hu, k, ys, ⟨nk_is I k _ _ hb rfl, hd8⟩, dd, hz, fun p hp => ?_, fun hno h' dd' hs => ?_⟩
      · rw [hp] at rv
        cases ev : valV (KN xs) k with
        | none =>
          rw [ev] at rv
          exact (show False from rv).elim
        | some v0 =>
          rw [ev] at rv
          exact ⟨v0, H, I.tok _, rv, q1 v0 ev⟩
      · have ev : valV (KN xs) k = none := by
          rw [hno] at rv
          cases ev : valV (KN xs) k with
          | none => rfl
          | some v0 =>
            rw [ev] at rv
            exact (show False from rv).elim
        have hl2 : (putN xs k b z).length ≤ sizeLine := by
          have l1 := length_putK (KN xs) k z
          rw [← KN_put xs k b z] at l1
          unfold KN at l1 hl
          rw [List.length_map, List.length_map] at l1
          rw [List.length_map] at hl
          omega
        have he : ∃ q, h'.get? d = some q := let ⟨q, _, _, hq, _⟩ := dd'; ⟨q, hq⟩
        refine ⟨z, upd H d (DN X.prog X.w d (putN xs k b z)), d_write I (by rw [e]; exact True.intro) hs he (dn_ok h1 hl2 (r.put k b r2) dd'), r2, q2 ev _ ⟨putN xs k b z, upd_same, fun x hx2 => ?_, (KN_put xs k b z).symm⟩⟩
        have mo : ∀ a zs, SqT X.K H a zs → SqT X.K (upd H d (DN X.prog X.w d (putN xs k b z))) a zs := fun a zs h => SqT_updE h e
        rcases putN_mem hx2 with ⟨y, hy, e1, e2⟩ | ⟨e1, e2⟩
        · rw [e1, e2]
          exact ⟨NkAt.mono mo _ _ (hx y hy).1, (hx y hy).2⟩
        · rw [e1, e2]
          exact ⟨NkAt.mono mo _ _ hb, hd8⟩
theorem mt_popDN (K : PySem.W.Frag) (hu : X.A.units + 9 < cLine) (hp : X.prog = P := by rfl) (hw : X.w = w := by rfl) (hk : X.K = K := by rfl) : MtR X "dict.pop" (rPopDN P w K) := by
  subst hp hw hk
  intro pins s σ H x args v us Q I rx ra h
  obtain ⟨d, b, kvs, k, v0, rfl, rfl, ⟨xs, e, hx, rfl⟩, hb, hd8, hv, q⟩ := h
  obtain rfl : v = Value.ref d := rx
  cases ra with
  | cons r1 r2 =>
    cases r2
    rename_i u1
    obtain rfl : u1 = Value.ref b := r1
    obtain ⟨h1, h2, ys, r, dd⟩ := dat_of I e hx
    have hz : ys.length ≤ sizeLine := by rw [← Paired.length r]; exact h2
    have rv := r.val k
    rw [hv] at rv
    refine call_meetsIn PySem.F.slot_dict_pop dd.typeIs PySem.F.entry_dict_pop (PySem.F.args_dict_pop_2 _ _) (meetsH_dict_pop (nestedKind X.prog X.w) d b h1 [] (.inl rfl)) ⟨nroom hu, k, ys, ⟨nk_is I k _ _ hb rfl, hd8⟩, dd, hz, fun p hp h' dd' hs => ?_, fun hno => ?_⟩
    · rw [hp] at rv
      have hl2 : (dropN xs k).length ≤ sizeLine := Nat.le_trans (List.length_filter_le _ _) h2
      have he : ∃ q, h'.get? d = some q := let ⟨q, _, _, hq, _⟩ := dd'; ⟨q, hq⟩
      refine ⟨v0, upd H d (DN X.prog X.w d (dropN xs k)), d_write I (by rw [e]; exact True.intro) hs he (dn_ok h1 hl2 (r.drop k) dd'), rv, q _ ⟨dropN xs k, upd_same, fun x hx2 => ?_, (KN_drop xs k).symm⟩⟩
      have mo : ∀ a zs, SqT X.K H a zs → SqT X.K (upd H d (DN X.prog X.w d (dropN xs k))) a zs := fun a zs h => SqT_updE h e
      have hy := (List.mem_filter.mp hx2).1
      exact ⟨NkAt.mono mo _ _ (hx x hy).1, (hx x hy).2⟩
    · rw [hno] at rv
      exact (show False from rv).elim
end
end Ef
set_option maxHeartbeats 4000000
namespace Ef
open PySem PySem.Spec PyProof.Rows L2 PySem.W
/-! ### {k: v} with one key that is a tuple of tuples -/
def tDispN (P : Program) (w : World) (K : PySem.W.Frag) (tk tv : TE) : TE := fun σ H Q => ∀ D, H D = none → tk σ (upd H D (DN P w D [])) fun y H1 => tv σ H1 fun z H2 => ∃ (b : Addr) (k : NestedKey), y = .ref b ∧ NkAt K H2 k (.ref b) ∧ k.depth ≤ 8 ∧ H2 D = some (DN P w D []) ∧
  ∀ u, DAt P w K (upd H2 D u) D [(k, z)] → Q (.ref D) (upd H2 D u)
def dispQ (P : Program) (w : World) (K : PySem.W.Frag) (D : Addr) (Q : VK) : List (V × V) → Hp → Prop
  | [(y, z)], H2 => ∃ (b : Addr) (k : NestedKey), y = .ref b ∧ NkAt K H2 k (.ref b) ∧ k.depth ≤ 8 ∧ H2 D = some (DN P w D []) ∧ ∀ u, DAt P w K (upd H2 D u) D [(k, z)] → Q (.ref D) (upd H2 D u)
  | _, _ => False
theorem dispQ_inv {P : Program} {w : World} {K : PySem.W.Frag} {D : Addr} {Q : VK} : ∀ {ps : List (V × V)} {H2 : Hp}, dispQ P w K D Q ps H2 → ∃ y z, ps = [(y, z)] ∧ ∃ (b : Addr) (k : NestedKey), y = .ref b ∧ NkAt K H2 k (.ref b) ∧ k.depth ≤ 8 ∧ H2 D = some (DN P w D []) ∧ ∀ u, DAt P w K (upd H2 D u) D [(k, z)] → Q (.ref D) (upd H2 D u)
  | [], _, h => h.elim
  | [(y, z)], _, h => ⟨y, z, rfl, h⟩
  | _ :: _ :: _, _, h => h.elim
theorem vv_one {p : V × V} {ws : List (Value × Value)} (h : VV [p] ws) : ∃ u1 u2, ws = [(u1, u2)] ∧ RelV p.1 u1 ∧ RelV p.2 u2 := by
  cases h with
  | @cons _ b _ _ r t =>
    cases t
    exact ⟨b.1, b.2, rfl, r.1, r.2⟩
theorem pe_dispN {X : Cx} {P : Program} {w : World} (K : PySem.W.Frag) {k v : Expr} {pos : Pos} {tk tv : TE} (hk : PE X k tk) (hv : PE X v tv) (hu : X.A.units + 9 < cLine) (hp : X.prog = P := by rfl) (hw : X.w = w := by rfl) (hK : X.K = K := by rfl) : PE X (.Dict [some k] [v] pos) (tDispN P w K tk tv) := by
  subst hp hw hK
  refine ⟨fun pins s σ H Q I q => ?_⟩
  have hn := I.hok.fresh (Nat.le_refl s.heap.objs.size)
  have I1 := I.laid (a := s.heap.objs.size) (o := DN X.prog X.w s.heap.objs.size []) (h' := s.heap.push { cls := .type "dict", data := .dict #[] }) (t' := s.toks) (fun _ _ q => Heap.get?_push_of_some _ q) (Nat.le_refl _)
    (dn_ok (beq_eq_false_iff_ne.mpr (Ne.symm (Nat.ne_of_lt I.big))) (Nat.zero_le _) .nil (Heap.DictOfH.new s.heap))
  have q1 : tPairs [(tk, tv)] σ (upd H s.heap.objs.size (DN X.prog X.w s.heap.objs.size [])) (dispQ X.prog X.w X.K s.heap.objs.size Q) := q _ hn
  have pl := pairTrees_length [some k] [v] X.env pos rfl rfl
  have room : (nestedKind X.prog X.w).room X.A := by
    show X.A.units + 8 < cLine
    omega
  rw [arm_eval_Dict, zip_pairTrees [some k] [v] X.env pos rfl rfl, dictDisplay_pairs _ (fun z => by rw [z] at pl; cases pl) (by rw [pl]; show 1 < 17; decide)]
  refine wpAny_bind (wpAny_standAt (wpAny_bind (wpAny_subDictH (knd := nestedKind X.prog X.w) room (by rw [pl]; show 1 ≤ 15; decide) (thn ((pps_cons hk hv pps_nil).run pins _ σ _ _ I1 q1) fun ws s2 ⟨ps, H2, I2, rel, e⟩ => ?_))))
  obtain ⟨y, z, rfl, b, k', rfl, hb, hd8, hD, q2⟩ := dispQ_inv e
  obtain ⟨u1, u2, rfl, r1, r2⟩ := vv_one rel
  obtain rfl : u1 = Value.ref b := r1
  obtain ⟨h1, h2, ys, r, dd⟩ := dat_of I2 hD (fun x hx => absurd hx List.not_mem_nil)
  cases r
  refine ⟨[(k', b, u2)], ⟨rfl, rfl, ⟨nk_is I2 k' _ _ hb rfl, hd8⟩, trivial⟩, dd, fun h' tk' dd' hs => ?_⟩
  have hl2 : (putN [] k' b z).length ≤ sizeLine := by show 1 ≤ sizeLine; decide
  have dr : DRel (putN [] k' b z) (storedH [] k' b u2) := DRel.put (xs := []) (ys := []) .nil k' b r2
  have he : ∃ q, h'.get? s.heap.objs.size = some q := by
    obtain ⟨q, _, _, hq, _⟩ := id dd'
    exact ⟨q, hq⟩
  have dd2 : h'.DictOfH (nestedKind X.prog X.w) s.heap.objs.size (storedH [] k' b u2) := dd'
  have hKN : KN (putN [] k' b z) = [(k', z)] := rfl
  have hxs : ∀ x ∈ putN [] k' b z, x.1 = k' ∧ x.2.1 = b := fun x hx => by
    rcases putN_mem hx with ⟨y, hy, _⟩ | e
    · exact absurd hy List.not_mem_nil
    · exact e
  generalize putN [] k' b z = xs at hl2 dr hKN hxs
  generalize storedH [] k' b u2 = ys at dr dd2
  have hm : Mut (H2 s.heap.objs.size) := by rw [hD]; exact True.intro
  have mo : ∀ a zs, SqT X.K H2 a zs → SqT X.K (upd H2 s.heap.objs.size (DN X.prog X.w s.heap.objs.size xs)) a zs := fun a zs h => SqT_updE h hD
  have q3 := q2 (DN X.prog X.w s.heap.objs.size xs) ⟨xs, upd_same, fun x hx2 => by
    obtain ⟨e1, e2⟩ := hxs x hx2
    rw [e1, e2]
    exact ⟨NkAt.mono mo _ _ hb, hd8⟩, hKN.symm⟩
  have ok := dn_ok (P := X.prog) (w := X.w) (H := upd H2 s.heap.objs.size (DN X.prog X.w s.heap.objs.size xs)) h1 hl2 dr dd2
  have I3 := d_write (t' := tk') I2 hm hs he ok
  exact wpAny_pure ⟨.ref s.heap.objs.size, _, I3, rfl, q3⟩
end Ef
namespace Ef
/-! ### levels that are equal, and what follows for the live servers -/
def edgE (s : Nat) (r : List Nat) : List Nat × Nat := (srt (r.take s), r.getD s 0)
def cE (es : List (List Nat × Nat)) (e : List Nat × Nat) : Nat := es.countP fun a => decide (a = e)
theorem cE_app (a b : List (List Nat × Nat)) (e : List Nat × Nat) : cE (a ++ b) e = cE a e + cE b e := List.countP_append
theorem cE_perm {a b : List (List Nat × Nat)} (h : a.Perm b) (e : List Nat × Nat) : cE a e = cE b e := h.countP_eq _
theorem cE_map {α : Type} (f : α → List Nat × Nat) (e : List Nat × Nat) (l : List α) : cE (l.map f) e = l.countP fun a => decide (f a = e) := by
  unfold cE
  rw [List.countP_map]
  rfl
/-- all level numbers of the level are w -/
def Lev (n s w : Nat) (rows : List (List Nat)) : Prop := ∀ e ∈ allE n s, cE (rows.map (edgE s)) e = w
/-- rows of a table -/
def Tab (n d : Nat) (rows : List (List Nat)) : Prop := ∀ r ∈ rows, r.length = d ∧ r.Nodup ∧ ∀ x ∈ r, x < n
theorem srt_eq {a b : List Nat} (h : a.Perm b) : srt a = srt b := srt_of ((srt_perm a).trans h) (srt_le a)
theorem srt_self {a : List Nat} (h : Asc a) : srt a = a := (srt_of (List.Perm.refl a) (h.imp fun z => Nat.le_of_lt z)).symm
theorem perm_of_srt {a b : List Nat} (h : srt a = srt b) : a.Perm b := (srt_perm a).symm.trans (h ▸ srt_perm b)
theorem edgE_mem {n d s : Nat} {rows : List (List Nat)} (G : Tab n d rows) (hs : s < d) : ∀ e ∈ rows.map (edgE s), e ∈ allE n s := fun e he => by
  obtain ⟨r, hr, rfl⟩ := List.mem_map.mp he
  obtain ⟨h1, h2, h3⟩ := G r hr
  have pm := srt_perm (r.take s)
  have hlt : s < r.length := by omega
  have hx : r.getD s 0 = r[s] := by
    rw [List.getD_eq_getElem?_getD, List.getElem?_eq_getElem hlt]
    rfl
  have nd : (r.take s).Nodup := h2.sublist (List.take_sublist _ _)
  refine allE_mem ?_ ?_ (srt_asc nd) fun y hy => ?_
  · rw [hx]
    exact h3 _ (List.getElem_mem _)
  · rw [pm.length_eq, List.length_take]
    omega
  · have hy2 := pm.mem_iff.mp hy
    refine ⟨h3 y (List.mem_of_mem_take hy2), fun e => ?_⟩
    obtain ⟨i, hi⟩ := List.getElem?_of_mem hy2
    rw [List.getElem?_take] at hi
    split at hi
    · rename_i hlt2
      have h4 : r[s]? = some y := by
        rw [List.getElem?_eq_getElem hlt, e, hx]
      have := (List.getElem?_inj (show i < r.length by omega) h2).mp (hi.trans h4.symm)
      omega
    · cases hi
theorem allE_nodup (n s : Nat) : (allE n s).Nodup := by
  unfold allE
  have key : ∀ l : List Nat, l.Nodup → (l.flatMap fun x => (combs (without n x) s).map fun c => (c, x)).Nodup := by
    intro l
    induction l with
    | nil => intro _; exact List.nodup_nil
    | cons x l ih =>
      intro h
      obtain ⟨h1, h2⟩ := List.nodup_cons.mp h
      rw [List.flatMap_cons]
      refine List.nodup_append.mpr ⟨List.Pairwise.map _ (fun a b hab z => hab (congrArg Prod.fst z)) (combsNodup _ _ (asc_nodup (without_asc n x))), ih h2, fun a ha b hb e => ?_⟩
      obtain ⟨c, _, rfl⟩ := List.mem_map.mp ha
      obtain ⟨y, hy, hb⟩ := List.mem_flatMap.mp hb
      obtain ⟨c', _, rfl⟩ := List.mem_map.mp hb
      have : x = y := congrArg Prod.snd e
      exact h1 (this ▸ hy)
  exact key _ List.nodup_range
theorem sum_one' {α : Type} [DecidableEq α] {c : α} : ∀ {cs : List α}, cs.Nodup → c ∈ cs → (cs.map fun d => if c = d then 1 else 0).sum = 1
  | [], _, h => absurd h List.not_mem_nil
  | d :: cs, hn, h => by
    obtain ⟨h1, h2⟩ := List.nodup_cons.mp hn
    rw [List.map_cons, List.sum_cons]
    by_cases e : c = d
    · subst e
      have z : ∀ (l : List α), c ∉ l → (l.map fun d => if c = d then 1 else 0).sum = 0 := by
        intro l
        induction l with
        | nil => intro _; rfl
        | cons a l ih =>
          intro hh
          rw [List.map_cons, List.sum_cons, if_neg (fun z : c = a => hh (by rw [z]; exact List.mem_cons_self)), ih fun z => hh (List.mem_cons_of_mem _ z)]
      rw [if_pos rfl, z cs h1]
    · rw [if_neg e, sum_one' h2 ((List.mem_cons.mp h).resolve_left e)]
theorem sum_add' {α : Type} (f g : α → Nat) : ∀ l : List α, (l.map fun x => f x + g x).sum = (l.map f).sum + (l.map g).sum
  | [] => rfl
  | a :: l => by
    rw [List.map_cons, List.sum_cons, List.map_cons, List.sum_cons, List.map_cons, List.sum_cons, sum_add' f g l]
    omega
theorem sum_zero' {α : Type} {f : α → Nat} : ∀ {l : List α}, (∀ a ∈ l, f a = 0) → (l.map f).sum = 0
  | [], _ => rfl
  | a :: l, h => by rw [List.map_cons, List.sum_cons, h a List.mem_cons_self, sum_zero' fun b hb => h b (List.mem_cons_of_mem _ hb)]
theorem sum_congr' {α : Type} {f g : α → Nat} {l : List α} (h : ∀ a ∈ l, f a = g a) : (l.map f).sum = (l.map g).sum := by rw [List.map_congr_left h]
theorem sum_cE {cs : List (List Nat × Nat)} (hn : cs.Nodup) : ∀ {ks : List (List Nat × Nat)}, (∀ k ∈ ks, k ∈ cs) → (cs.map fun c => cE ks c).sum = ks.length
  | [], _ => sum_zero' fun _ _ => rfl
  | k :: ks, h => by
    have e : (fun c => cE (k :: ks) c) = fun c => cE ks c + if k = c then 1 else 0 := by
      funext c
      unfold cE
      rw [List.countP_cons]
      congr 1
      by_cases z : k = c
      · rw [if_pos z, if_pos (decide_eq_true z)]
      · rw [if_neg z, if_neg (fun y => z (of_decide_eq_true y))]
    rw [e, sum_add', sum_cE hn fun x hx => h x (List.mem_cons_of_mem _ hx), sum_one' hn (h k List.mem_cons_self)]
    rfl
theorem all_tight {α : Type} {f : α → Nat} {w : Nat} : ∀ {l : List α}, (∀ a ∈ l, w ≤ f a) → (l.map f).sum = l.length * w → ∀ a ∈ l, f a = w
  | [], _, _, a, ha => absurd ha List.not_mem_nil
  | b :: l, h1, h2, a, ha => by
    have hb := h1 b List.mem_cons_self
    have ge : ∀ l : List α, (∀ a ∈ l, w ≤ f a) → l.length * w ≤ (l.map f).sum := by
      intro l
      induction l with
      | nil => intro _; simp
      | cons c l ih =>
        intro h
        rw [List.map_cons, List.sum_cons, List.length_cons, Nat.succ_mul]
        have := ih fun x hx => h x (List.mem_cons_of_mem _ hx)
        have := h c List.mem_cons_self
        omega
    have hl := ge l fun x hx => h1 x (List.mem_cons_of_mem _ hx)
    rw [List.map_cons, List.sum_cons, List.length_cons, Nat.succ_mul] at h2
    rcases List.mem_cons.mp ha with rfl | ha
    · omega
    · exact all_tight (fun x hx => h1 x (List.mem_cons_of_mem _ hx)) (by omega) a ha
/-- the level's number is what it must be -/
theorem Lev.eq {n d s w : Nat} {rows : List (List Nat)} (G : Tab n d rows) (hs : s < d) (h : Lev n s w rows) : n * C (n - 1) s * w = rows.length := by
  have h1 := sum_cE (allE_nodup n s) (edgE_mem G hs)
  rw [List.length_map, sum_congr' (g := fun _ => w) fun e he => h e he] at h1
  rw [← h1, ← allE_len, List.map_const', List.sum_replicate_nat]
/-! the standard tables -/
theorem path_edge {n c d k s : Nat} (hs : s < d) : edgE s (path n d c k).1 = (srt (path n s c k).1, (folL n c (List.range' 0 s) (List.range' 0 n) k).getD ((path n s c k).2 / wd n c s) 0) := by
  unfold edgE path
  have h1 : d = s + (d - s) := by omega
  have e1 := fol_take n c k s (d - s)
  have e2 := fol_take n c k (s + 1) (d - (s + 1))
  rw [← h1] at e1
  rw [show s + 1 + (d - (s + 1)) = d by omega, range'_end, fol_snoc] at e2
  rw [e1]
  congr 1
  have l := fol_len n c (List.range' 0 s) (List.range' 0 n) k
  rw [List.length_range'] at l
  have e3 : (fol n c (List.range' 0 d) (List.range' 0 n) k).1[s]? = some ((folL n c (List.range' 0 s) (List.range' 0 n) k).getD ((fol n c (List.range' 0 s) (List.range' 0 n) k).2 / wd n c s) 0) := by
    have e4 : ((fol n c (List.range' 0 d) (List.range' 0 n) k).1.take (s + 1))[s]? = (fol n c (List.range' 0 d) (List.range' 0 n) k).1[s]? := by
      rw [List.getElem?_take, if_pos (by omega)]
    rw [← e4, e2]
    show (_ ++ [_])[s]? = _
    rw [List.getElem?_append_right (by omega), l, Nat.sub_self]
    rfl
  rw [List.getD_eq_getElem?_getD, e3]
  rfl
theorem std_lev {n d c : Nat} (st : Std n d c) {s : Nat} (hs : s < d) : Lev n s (wd n c s) ((List.range c).map fun k => (path n d c k).1) := by
  have dv := st.dvd s hs
  have w0 := wd_pos dv st.c0
  have dn := st.dn
  have G : Tab n d ((List.range c).map fun k => (path n d c k).1) := fun r hr => by
    obtain ⟨k, hk, rfl⟩ := List.mem_map.mp hr
    exact ⟨path_len n d c k, path_nodup st (List.mem_range.mp hk), path_lt st (List.mem_range.mp hk)⟩
  refine all_tight (f := fun e => cE (((List.range c).map fun k => (path n d c k).1).map (edgE s)) e) (fun e he => ?_) ?_
  · -- at least so many
    obtain ⟨x, hx, he⟩ := List.mem_flatMap.mp he
    obtain ⟨S, hS, rfl⟩ := List.mem_map.mp he
    obtain ⟨g1, g2⟩ := combs_good _ _ _ hS
    have ascS : Asc S := (without_asc n x).sublist g2
    have memS : ∀ y ∈ S, y < n ∧ y ≠ x := fun y hy => by
      have := List.mem_filter.mp (g2.subset hy)
      exact ⟨List.mem_range.mp this.1, by simpa using this.2⟩
    have hxn := List.mem_range.mp hx
    -- the servers outside
    have hL0 : Compl n S ((List.range' 0 n).filter fun y => !decide (y ∈ S)) := ⟨ascS, (asc_range' n 0).filter _, fun y hy => (memS y hy).1, fun y => by
      rw [List.mem_filter, mem_range0]
      simp⟩
    have hxL : x ∈ (List.range' 0 n).filter fun y => !decide (y ∈ S) := (hL0.mem x).mpr ⟨hxn, fun z => (memS x z).2 rfl⟩
    obtain ⟨i, hi⟩ := List.getElem?_of_mem hxL
    have lenL : ((List.range' 0 n).filter fun y => !decide (y ∈ S)).length = n - s := by
      have p : (S ++ (List.range' 0 n).filter fun y => !decide (y ∈ S)).Perm (List.range' 0 n) := by
        refine (List.perm_ext_iff_of_nodup ?_ (asc_nodup (asc_range' n 0))).mpr fun y => ?_
        · refine List.nodup_append.mpr ⟨asc_nodup ascS, (asc_nodup (asc_range' n 0)).filter _, fun a ha b hb e => ?_⟩
          subst e
          exact ((hL0.mem a).mp hb).2 ha
        · rw [List.mem_append, hL0.mem, mem_range0]
          constructor
          · rintro (h | h)
            · exact (memS y h).1
            · exact h.1
          · intro h
            by_cases c : y ∈ S
            · exact .inl c
            · exact .inr ⟨h, c⟩
      have := p.length_eq
      rw [List.length_append, List.length_range', g1] at this
      omega
    have hi2 : i < n - s := by
      rw [← lenL]
      exact (List.getElem?_eq_some_iff.mp hi).1
    have wo : c / C n s = wd n c s * (n - s) := by
      have e := wd_out dv (show s < n by omega)
      have p := C_pos n s (by omega)
      conv => lhs; rw [← e]
      exact Nat.mul_div_cancel _ p
    rw [List.map_map, cE_map, List.countP_eq_length_filter]
    have hd : ∀ k, k < s → n * C (n - 1) k ∣ c := fun k hk => st.dvd k (by omega)
    have hpl : ∀ r, r < wd n c s → Place n c s S (wd n c s * i + r) := fun r hr => ⟨ascS, fun y hy => (memS y hy).1, g1, by
      rw [wo]
      have : wd n c s * (i + 1) ≤ wd n c s * (n - s) := Nat.mul_le_mul_left _ (by omega)
      rw [Nat.mul_add, Nat.mul_one] at this
      omega⟩
    have hlen : ((List.range (wd n c s)).map fun r => (fol n c (List.range' 0 s).reverse S (wd n c s * i + r)).2).length = wd n c s := by
      rw [List.length_map, List.length_range]
    rw [← hlen]
    refine subG_len ?_ fun k hk => ?_
    · rw [List.nodup_iff_pairwise_ne]
      refine List.pairwise_map.mpr ?_
      refine List.Pairwise.imp_of_mem (R := fun a b => a ≠ b) (fun {a b} ha hb hab e => hab ?_) (List.nodup_iff_pairwise_ne.mp List.nodup_range)
      have h1 := (back_fwd st.c0 s S _ (by omega) hd (hpl a (List.mem_range.mp ha))).2.2.1
      have h2 := (back_fwd st.c0 s S _ (by omega) hd (hpl b (List.mem_range.mp hb))).2.2.1
      rw [e] at h1
      rw [h1] at h2
      omega
    · obtain ⟨r, hr, rfl⟩ := List.mem_map.mp hk
      have hr2 := List.mem_range.mp hr
      obtain ⟨b1, b2, b3, b4⟩ := back_fwd st.c0 s S _ (by omega) hd (hpl r hr2)
      refine List.mem_filter.mpr ⟨List.mem_range.mpr b1, decide_eq_true ?_⟩
      show edgE s (path n d c _).1 = _
      rw [path_edge hs]
      unfold path
      rw [b3]
      have ed : (wd n c s * i + r) / wd n c s = i := by
        rw [Nat.mul_add_div w0, Nat.div_eq_of_lt hr2, Nat.add_zero]
      rw [ed, ← b4.free, List.getD_eq_getElem?_getD, hi]
      congr 1
      exact (srt_eq b2).trans (srt_self ascS)
  · rw [sum_cE (allE_nodup n s) (edgE_mem G hs), List.length_map, List.length_map, List.length_range, allE_len, Nat.mul_comm]
    exact (wd_eq dv).symm
end Ef
namespace Ef
/-! ### equal levels share the lists evenly among the live servers -/
def lvL (L r : List Nat) : List Nat := r.filter fun x => decide (x ∈ L)
def ddL (L r : List Nat) : List Nat := r.filter fun x => !decide (x ∈ L)
theorem lvL_app (L a b : List Nat) : lvL L (a ++ b) = lvL L a ++ lvL L b := List.filter_append ..
theorem lvL_perm {L a b : List Nat} (h : a.Perm b) : (lvL L a).Perm (lvL L b) := h.filter _
theorem ddL_perm {L a b : List Nat} (h : a.Perm b) : (ddL L a).Perm (ddL L b) := h.filter _
theorem lv_dd (L : List Nat) : ∀ r : List Nat, (lvL L r ++ ddL L r).Perm r
  | [] => List.Perm.refl _
  | x :: r => by
    unfold lvL ddL
    by_cases c : x ∈ L
    · rw [List.filter_cons_of_pos (by simpa using c), List.filter_cons_of_neg (by simpa using c)]
      exact (lv_dd L r).cons x
    · rw [List.filter_cons_of_neg (by simpa using c), List.filter_cons_of_pos (by simpa using c)]
      exact List.perm_middle.trans ((lv_dd L r).cons x)
/-- where the live server with this number stands -/
theorem at_live (L : List Nat) : ∀ (r : List Nat) (q : Nat), q + 1 ≤ (lvL L r).length → ∃ s x, r[s]? = some x ∧ x ∈ L ∧ (lvL L (r.take s)).length = q ∧ (lvL L r).take (q + 1) = lvL L (r.take s) ++ [x]
  | [], q, h => by
    have : (lvL L []).length = 0 := rfl
    omega
  | y :: r, q, h => by
    by_cases c : y ∈ L
    · have e : lvL L (y :: r) = y :: lvL L r := List.filter_cons_of_pos (by simpa using c)
      cases q with
      | zero =>
        refine ⟨0, y, rfl, c, rfl, ?_⟩
        rw [e]
        rfl
      | succ q =>
        rw [e, List.length_cons] at h
        obtain ⟨s, x, h1, h2, h3, h4⟩ := at_live L r q (by omega)
        have e2 : lvL L (y :: r.take s) = y :: lvL L (r.take s) := List.filter_cons_of_pos (by simpa using c)
        refine ⟨s + 1, x, h1, h2, ?_, ?_⟩
        · rw [List.take_succ_cons, e2, List.length_cons, h3]
        · rw [List.take_succ_cons, e2, e, List.take_succ_cons, h4]
          rfl
    · have e : lvL L (y :: r) = lvL L r := List.filter_cons_of_neg (by simpa using c)
      rw [e] at h
      obtain ⟨s, x, h1, h2, h3, h4⟩ := at_live L r q h
      have e2 : lvL L (y :: r.take s) = lvL L (r.take s) := List.filter_cons_of_neg (by simpa using c)
      refine ⟨s + 1, x, h1, h2, ?_, ?_⟩
      · rw [List.take_succ_cons, e2, h3]
      · rw [List.take_succ_cons, e2, e, h4]
theorem take_one {r : List Nat} {s x : Nat} (h : r[s]? = some x) : r.take (s + 1) = r.take s ++ [x] := by
  rw [List.take_add_one, h]
  rfl
theorem live_uniq {L r : List Nat} {q s s' x x' : Nat} (h1 : r[s]? = some x) (h2 : x ∈ L) (h3 : (lvL L (r.take s)).length = q) (k1 : r[s']? = some x') (k2 : x' ∈ L) (k3 : (lvL L (r.take s')).length = q) : s = s' := by
  have key : ∀ {a b y : Nat}, r[a]? = some y → y ∈ L → (lvL L (r.take a)).length = q → (lvL L (r.take b)).length = q → ¬ a < b := by
    intro a b y g1 g2 g3 g4 hlt
    have e : r.take b = r.take (a + 1) ++ (r.take b).drop (a + 1) := by
      have := List.take_append_drop (a + 1) (r.take b)
      rw [List.take_take, Nat.min_eq_left (by omega)] at this
      exact this.symm
    rw [e, take_one g1, lvL_app, lvL_app, List.length_append, List.length_append] at g4
    have : (lvL L [y]).length = 1 := by
      unfold lvL
      rw [List.filter_cons_of_pos (by simpa using g2)]
      rfl
    omega
  have a := key h1 h2 h3 k3
  have b := key k1 k2 k3 h3
  omega
/-- all sublists -/
def subsA : List Nat → List (List Nat)
  | [] => [[]]
  | x :: r => (subsA r).map (x :: ·) ++ subsA r
theorem subsA_mem : ∀ {l c : List Nat}, c.Sublist l → c ∈ subsA l
  | [], c, h => by
    rw [List.sublist_nil.mp h]
    exact List.mem_singleton.mpr rfl
  | x :: r, c, h => by
    cases h with
    | cons _ h => exact List.mem_append_right _ (subsA_mem h)
    | cons_cons _ h => exact List.mem_append_left _ (List.mem_map.mpr ⟨_, subsA_mem h, rfl⟩)
theorem subsA_good : ∀ {l c : List Nat}, c ∈ subsA l → c.Sublist l
  | [], c, h => by
    rw [List.mem_singleton.mp h]
    exact List.Sublist.refl _
  | x :: r, c, h => by
    rcases List.mem_append.mp h with h | h
    · obtain ⟨d, hd, rfl⟩ := List.mem_map.mp h
      exact (subsA_good hd).cons_cons x
    · exact (subsA_good h).cons x
theorem subsA_nodup : ∀ {l : List Nat}, l.Nodup → (subsA l).Nodup
  | [], _ => List.nodup_cons.mpr ⟨List.not_mem_nil, List.nodup_nil⟩
  | x :: r, h => by
    obtain ⟨h1, h2⟩ := List.nodup_cons.mp h
    refine List.nodup_append.mpr ⟨List.Pairwise.map _ (fun a b hab z => hab (List.cons.inj z).2) (subsA_nodup h2), subsA_nodup h2, fun a ha b hb e => ?_⟩
    obtain ⟨c, _, rfl⟩ := List.mem_map.mp ha
    have := subsA_good hb
    rw [← e] at this
    exact h1 (this.subset List.mem_cons_self)
/-- a row and a pair: the row begins with T but x, and D, and goes on to x -/
def mtB (T : List Nat) (q : Nat) (p : List Nat × Nat) (r : List Nat) : Bool := decide (edgE (q + p.1.length) r = (srt (T.erase p.2 ++ p.1), p.2))
theorem lv_all {L a : List Nat} (h : ∀ x ∈ a, x ∈ L) : lvL L a = a := List.filter_eq_self.mpr fun x hx => by simpa using h x hx
theorem lv_none {L a : List Nat} (h : ∀ x ∈ a, x ∉ L) : lvL L a = [] := List.filter_eq_nil_iff.mpr fun x hx => by simpa using h x hx
theorem dd_all {L a : List Nat} (h : ∀ x ∈ a, x ∉ L) : ddL L a = a := List.filter_eq_self.mpr fun x hx => by simpa using h x hx
theorem dd_none {L a : List Nat} (h : ∀ x ∈ a, x ∈ L) : ddL L a = [] := List.filter_eq_nil_iff.mpr fun x hx => by simpa using h x hx
theorem ddL_app (L a b : List Nat) : ddL L (a ++ b) = ddL L a ++ ddL L b := List.filter_append ..
theorem mt_iff {L T D r : List Nat} {q x : Nat} (hT : Asc T) (hTl : T.length = q + 1) (hTL : ∀ y ∈ T, y ∈ L) (hx : x ∈ T) (hD : Asc D) (hDL : ∀ y ∈ D, y ∉ L) (hs : q + D.length < r.length) :
    mtB T q (D, x) r = true ↔ ∃ s, r[s]? = some x ∧ (lvL L (r.take s)).length = q ∧ srt (lvL L (r.take s) ++ [x]) = T ∧ srt (ddL L (r.take s)) = D := by
  have te : (T.erase x).Perm (T.erase x) := List.Perm.refl _
  have tp : (T.erase x ++ [x]).Perm T := (List.perm_append_singleton x _).trans (List.perm_cons_erase hx).symm
  have tl : (T.erase x).length = q := by
    rw [List.length_erase_of_mem hx]
    omega
  have eL : ∀ y ∈ T.erase x, y ∈ L := fun y hy => hTL y (List.mem_of_mem_erase hy)
  unfold mtB
  rw [decide_eq_true_iff]
  constructor
  · intro h
    have h1 : srt (r.take (q + D.length)) = srt (T.erase x ++ D) := congrArg Prod.fst h
    have h2 : r.getD (q + D.length) 0 = x := congrArg Prod.snd h
    have pm := perm_of_srt h1
    have hxs : r[q + D.length]? = some x := by
      rw [List.getD_eq_getElem?_getD, List.getElem?_eq_getElem hs] at h2
      rw [List.getElem?_eq_getElem hs]
      exact congrArg some h2
    have pl : (lvL L (r.take (q + D.length))).Perm (T.erase x) := by
      have := lvL_perm (L := L) pm
      rw [lvL_app, lv_all eL, lv_none hDL, List.append_nil] at this
      exact this
    have pd : (ddL L (r.take (q + D.length))).Perm D := by
      have := ddL_perm (L := L) pm
      rw [ddL_app, dd_none eL, dd_all hDL, List.nil_append] at this
      exact this
    exact ⟨q + D.length, hxs, by rw [pl.length_eq, tl], (srt_eq ((pl.append_right [x]).trans tp)).trans (srt_self hT), (srt_eq pd).trans (srt_self hD)⟩
  · rintro ⟨s, h1, h2, h3, h4⟩
    have hsl : s < r.length := (List.getElem?_eq_some_iff.mp h1).1
    have pl : (lvL L (r.take s)).Perm (T.erase x) := by
      have p1 : (lvL L (r.take s) ++ [x]).Perm T := (srt_perm _).symm.trans (h3 ▸ List.Perm.refl _)
      have p2 := p1.trans tp.symm
      exact (List.perm_append_right_iff _).mp p2
    have pd : (ddL L (r.take s)).Perm D := (srt_perm _).symm.trans (h4 ▸ List.Perm.refl _)
    have pr : (r.take s).Perm (T.erase x ++ D) := (lv_dd L _).symm.trans (pl.append pd)
    have es : s = q + D.length := by
      have := pr.length_eq
      rw [List.length_take, List.length_append, tl] at this
      omega
    subst es
    unfold edgE
    show (srt (r.take (q + D.length)), r.getD (q + D.length) 0) = _
    rw [srt_eq pr, List.getD_eq_getElem?_getD, h1]
    rfl
/-- the pairs of T -/
def prL (dead T : List Nat) : List (List Nat × Nat) := (subsA dead).flatMap fun D => T.map fun x => (D, x)
theorem prL_nodup {dead T : List Nat} (hd : dead.Nodup) (hT : T.Nodup) : (prL dead T).Nodup := by
  unfold prL
  have key : ∀ l : List (List Nat), l.Nodup → (l.flatMap fun D => T.map fun x => (D, x)).Nodup := by
    intro l
    induction l with
    | nil => intro _; exact List.nodup_nil
    | cons D l ih =>
      intro h
      obtain ⟨h1, h2⟩ := List.nodup_cons.mp h
      rw [List.flatMap_cons]
      refine List.nodup_append.mpr ⟨List.Pairwise.map _ (fun a b hab z => hab (congrArg Prod.snd z)) hT, ih h2, fun a ha b hb e => ?_⟩
      obtain ⟨c, _, rfl⟩ := List.mem_map.mp ha
      obtain ⟨D', hD', hb⟩ := List.mem_flatMap.mp hb
      obtain ⟨c', _, rfl⟩ := List.mem_map.mp hb
      have ed : D = D' := congrArg Prod.fst e
      exact h1 (by rw [ed]; exact hD')
  exact key _ (subsA_nodup hd)
theorem countP_one {α : Type} {p : α → Bool} {a : α} : ∀ {l : List α}, l.Nodup → a ∈ l → (∀ b ∈ l, (p b = true ↔ b = a)) → l.countP p = 1
  | [], _, h, _ => absurd h List.not_mem_nil
  | b :: l, hn, h, hp => by
    obtain ⟨h1, h2⟩ := List.nodup_cons.mp hn
    rw [List.countP_cons]
    by_cases e : b = a
    · subst e
      have z : l.countP p = 0 := List.countP_eq_zero.mpr fun c hc hpc => h1 (((hp c (List.mem_cons_of_mem _ hc)).mp hpc) ▸ hc)
      rw [z, if_pos ((hp b List.mem_cons_self).mpr rfl)]
    · rw [if_neg (fun z => e ((hp b List.mem_cons_self).mp z)), countP_one h2 ((List.mem_cons.mp h).resolve_left fun z => e z.symm) fun c hc => hp c (List.mem_cons_of_mem _ hc)]
theorem swap_sum {α β : Type} (m : α → β → Bool) (rows : List β) : ∀ l : List α, (l.map fun a => rows.countP (m a)).sum = (rows.map fun r => l.countP fun a => m a r).sum
  | [] => (sum_zero' fun _ _ => rfl).symm
  | a :: l => by
    rw [List.map_cons, List.sum_cons, swap_sum m rows l]
    have e : (rows.map fun r => (a :: l).countP fun a => m a r) = rows.map fun r => (l.countP fun a => m a r) + if m a r = true then 1 else 0 := List.map_congr_left fun r _ => List.countP_cons ..
    rw [e, sum_add', Nat.add_comm]
    congr 1
    induction rows with
    | nil => rfl
    | cons r rows ih =>
      rw [List.countP_cons, List.map_cons, List.sum_cons, ih (List.map_congr_left fun r _ => List.countP_cons ..)]
      omega
theorem sum_ind {β : Type} (p : β → Bool) : ∀ rows : List β, (rows.map fun r => if p r = true then 1 else 0).sum = rows.countP p
  | [] => rfl
  | r :: rows => by
    rw [List.map_cons, List.sum_cons, sum_ind p rows, List.countP_cons, Nat.add_comm]
/-- how many rows have this set of first live servers -/
def heldN (L : List Nat) (q : Nat) (rows : List (List Nat)) (T : List Nat) : Nat := rows.countP fun r => decide (srt ((lvL L r).take q) = T)
theorem held_pairs {n d q : Nat} {L dead T : List Nat} {rows : List (List Nat)} (G : Tab n d rows) (hT : Asc T) (hTl : T.length = q + 1) (hTL : ∀ y ∈ T, y ∈ L) (hdead : Asc dead) (hmem : ∀ y, y ∈ dead ↔ y < n ∧ y ∉ L)
    (hd : q + dead.length < d) (hlive : ∀ r ∈ rows, q + 1 ≤ (lvL L r).length) :
    heldN L (q + 1) rows T = ((prL dead T).map fun p => cE (rows.map (edgE (q + p.1.length))) (srt (T.erase p.2 ++ p.1), p.2)).sum := by
  have e1 : ((prL dead T).map fun p => cE (rows.map (edgE (q + p.1.length))) (srt (T.erase p.2 ++ p.1), p.2)) = (prL dead T).map fun p => rows.countP (mtB T q p) := List.map_congr_left fun p _ => cE_map _ _ _
  rw [e1, swap_sum]
  unfold heldN
  rw [← sum_ind]
  refine sum_congr' fun r hr => ?_
  obtain ⟨g1, g2, g3⟩ := G r hr
  obtain ⟨s, x, a1, a2, a3, a4⟩ := at_live L r q (hlive r hr)
  have ndT : T.Nodup := asc_nodup hT
  -- what a pair that fits is
  have fit : ∀ p ∈ prL dead T, (mtB T q p r = true ↔ srt ((lvL L r).take (q + 1)) = T ∧ p = (srt (ddL L (r.take s)), x)) := fun p hp => by
    obtain ⟨D, hD, hp⟩ := List.mem_flatMap.mp hp
    obtain ⟨y, hy, rfl⟩ := List.mem_map.mp hp
    have sD := subsA_good hD
    have ascD : Asc D := hdead.sublist sD
    have hDL : ∀ z ∈ D, z ∉ L := fun z hz => ((hmem z).mp (sD.subset hz)).2
    have hDl := sD.length_le
    rw [mt_iff hT hTl hTL hy ascD hDL (by omega), a4]
    constructor
    · rintro ⟨s', b1, b2, b3, b4⟩
      obtain rfl := live_uniq a1 a2 a3 b1 (hTL y hy) b2
      rw [a1] at b1
      obtain rfl := Option.some.inj b1
      exact ⟨b3, by rw [b4]⟩
    · rintro ⟨b1, b2⟩
      have c1 : D = srt (ddL L (r.take s)) := congrArg Prod.fst b2
      have c2 : y = x := congrArg Prod.snd b2
      subst c2
      exact ⟨s, a1, a3, b1, c1.symm⟩
  by_cases c : srt ((lvL L r).take (q + 1)) = T
  · rw [if_pos (decide_eq_true c)]
    refine (countP_one (prL_nodup (asc_nodup hdead) ndT) (a := (srt (ddL L (r.take s)), x)) ?_ fun p hp => ?_).symm
    · have hxT : x ∈ T := by
        rw [← c, a4]
        exact (srt_perm _).mem_iff.mpr (List.mem_append_right _ (List.mem_singleton.mpr rfl))
      have nd : (ddL L (r.take s)).Nodup := (g2.sublist (List.take_sublist _ _)).filter _
      have sub : (srt (ddL L (r.take s))).Sublist dead := ascSub (srt_asc nd) hdead fun y hy => by
        have h1 := List.mem_filter.mp ((srt_perm _).mem_iff.mp hy)
        exact (hmem y).mpr ⟨g3 y (List.mem_of_mem_take h1.1), by simpa using h1.2⟩
      exact List.mem_flatMap.mpr ⟨_, subsA_mem sub, List.mem_map.mpr ⟨x, hxT, rfl⟩⟩
    · rw [fit p hp]
      exact ⟨fun h => h.2, fun h => ⟨c, h⟩⟩
  · rw [if_neg (fun z => c (of_decide_eq_true z))]
    exact (List.countP_eq_zero.mpr fun p hp h => c ((fit p hp).mp h).1).symm
theorem sum_const {α : Type} (k : Nat) : ∀ l : List α, (l.map fun _ => k).sum = l.length * k
  | [] => by simp
  | a :: l => by rw [List.map_cons, List.sum_cons, sum_const k l, List.length_cons, Nat.succ_mul, Nat.add_comm]
/-- by equal levels every set of live servers holds as many lists -/
theorem held_even {n d q : Nat} {L dead T : List Nat} {rows : List (List Nat)} {w : Nat → Nat} (G : Tab n d rows) (hT : Asc T) (hTl : T.length = q + 1) (hTL : ∀ y ∈ T, y ∈ L) (hLn : ∀ y ∈ L, y < n) (hdead : Asc dead) (hmem : ∀ y, y ∈ dead ↔ y < n ∧ y ∉ L)
    (hd : q + dead.length < d) (hlive : ∀ r ∈ rows, q + 1 ≤ (lvL L r).length) (lev : ∀ s, s ≤ q + dead.length → Lev n s (w s) rows) :
    heldN L (q + 1) rows T = ((subsA dead).map fun D => (q + 1) * w (q + D.length)).sum := by
  rw [held_pairs G hT hTl hTL hdead hmem hd hlive]
  have e1 : ((prL dead T).map fun p => cE (rows.map (edgE (q + p.1.length))) (srt (T.erase p.2 ++ p.1), p.2)) = (prL dead T).map fun p => w (q + p.1.length) := List.map_congr_left fun p hp => by
    obtain ⟨D, hD, hp⟩ := List.mem_flatMap.mp hp
    obtain ⟨y, hy, rfl⟩ := List.mem_map.mp hp
    have sD := subsA_good hD
    have hDl := sD.length_le
    have pm := srt_perm (T.erase y ++ D)
    have ndT := asc_nodup hT
    have hyE : y ∉ T.erase y := fun z => (List.Nodup.mem_erase_iff ndT).mp z |>.1 rfl
    have nd : (T.erase y ++ D).Nodup := List.nodup_append.mpr ⟨ndT.sublist (List.erase_sublist), asc_nodup (hdead.sublist sD), fun a ha b hb e => by
      subst e
      exact ((hmem a).mp (sD.subset hb)).2 (hTL a (List.mem_of_mem_erase ha))⟩
    refine lev (q + D.length) (by omega) _ (allE_mem (hLn y (hTL y hy)) ?_ (srt_asc nd) fun z hz => ?_)
    · rw [pm.length_eq, List.length_append, List.length_erase_of_mem hy]
      omega
    · rcases List.mem_append.mp (pm.mem_iff.mp hz) with hz | hz
      · exact ⟨hLn z (hTL z (List.mem_of_mem_erase hz)), fun e => hyE (by rw [show y = z from e.symm]; rw [show y = z from e.symm] at hz; exact hz)⟩
      · have := (hmem z).mp (sD.subset hz)
        exact ⟨this.1, fun e => this.2 (by rw [show z = y from e]; exact hTL y hy)⟩
  rw [e1]
  unfold prL
  have key : ∀ l : List (List Nat), ((l.flatMap fun D => T.map fun x => (D, x)).map fun p => w (q + p.1.length)).sum = (l.map fun D => (q + 1) * w (q + D.length)).sum := by
    intro l
    induction l with
    | nil => rfl
    | cons D l ih =>
      rw [List.flatMap_cons, List.map_append, List.sum_append, List.map_cons, List.sum_cons, ih, List.map_map]
      congr 1
      show (T.map fun _ => w (q + D.length)).sum = _
      rw [sum_const, hTl]
  exact key _
end Ef
namespace Ef
/-! ### the shares of sets and of servers -/
theorem combs_one {cs : List (List Nat)} {k : List Nat} (hn : cs.Nodup) (h : k ∈ cs) : cs.countP (fun T => decide (k = T)) = 1 :=
  countP_one hn h fun b _ => by
    rw [decide_eq_true_iff]
    exact ⟨fun e => e.symm, fun e => e.symm⟩
/-- the set of the first live servers is one of the sets -/
theorem first_mem {n d q : Nat} {L : List Nat} {rows : List (List Nat)} (G : Tab n d rows) (aL : Asc L) (hlive : ∀ r ∈ rows, q ≤ (lvL L r).length) : ∀ r ∈ rows, srt ((lvL L r).take q) ∈ combs L q := fun r hr => by
  obtain ⟨_, g2, _⟩ := G r hr
  have nd : ((lvL L r).take q).Nodup := (g2.filter _).sublist (List.take_sublist _ _)
  have pm := srt_perm ((lvL L r).take q)
  have hl : (srt ((lvL L r).take q)).length = q := by
    rw [pm.length_eq, List.length_take]
    have := hlive r hr
    omega
  have := combs_mem L _ (ascSub (srt_asc nd) aL fun y hy => by
    have h1 := List.mem_filter.mp (List.mem_of_mem_take (pm.mem_iff.mp hy))
    exact of_decide_eq_true h1.2)
  rw [hl] at this
  exact this
theorem held_total {n d q : Nat} {L : List Nat} {rows : List (List Nat)} (G : Tab n d rows) (aL : Asc L) (hlive : ∀ r ∈ rows, q ≤ (lvL L r).length) : ((combs L q).map fun T => heldN L q rows T).sum = rows.length := by
  have e : ((combs L q).map fun T => heldN L q rows T) = (combs L q).map fun T => rows.countP ((fun T r => decide (srt ((lvL L r).take q) = T)) T) := rfl
  rw [e, swap_sum, sum_congr' (g := fun _ => 1) fun r hr => combs_one (combsNodup L q (asc_nodup aL)) (first_mem G aL hlive r hr), sum_const, Nat.mul_one]
/-- what there is to know of a live set and a factor -/
structure Live (n d q : Nat) (L : List Nat) (rows : List (List Nat)) : Prop where
  tab : Tab n d rows
  asc : Asc L
  lt : ∀ y ∈ L, y < n
  q1 : 1 ≤ q
  qL : q ≤ L.length
  fit : q + (n - L.length) ≤ d
  lev : ∀ s, s < q + (n - L.length) → ∃ w, Lev n s w rows
def deadL (n : Nat) (L : List Nat) : List Nat := (List.range' 0 n).filter fun y => !decide (y ∈ L)
theorem dead_mem {n : Nat} {L : List Nat} (y : Nat) : y ∈ deadL n L ↔ y < n ∧ y ∉ L := by
  unfold deadL
  rw [List.mem_filter, mem_range0]
  simp
theorem dead_asc (n : Nat) (L : List Nat) : Asc (deadL n L) := (asc_range' n 0).filter _
theorem live_dead {n : Nat} {L : List Nat} (aL : Asc L) (hL : ∀ y ∈ L, y < n) : L.length + (deadL n L).length = n := by
  have p : (L ++ deadL n L).Perm (List.range' 0 n) := by
    refine (List.perm_ext_iff_of_nodup ?_ (asc_nodup (asc_range' n 0))).mpr fun y => ?_
    · refine List.nodup_append.mpr ⟨asc_nodup aL, asc_nodup (dead_asc n L), fun a ha b hb e => ?_⟩
      subst e
      exact ((dead_mem a).mp hb).2 ha
    · rw [List.mem_append, dead_mem, mem_range0]
      constructor
      · rintro (h | h)
        · exact hL y h
        · exact h.1
      · intro h
        by_cases c : y ∈ L
        · exact .inl c
        · exact .inr ⟨h, c⟩
  have := p.length_eq
  rw [List.length_append, List.length_range'] at this
  exact this
/-- every list has enough live servers -/
theorem enough {n d : Nat} {L : List Nat} {rows : List (List Nat)} (G : Tab n d rows) (aL : Asc L) (hL : ∀ y ∈ L, y < n) {q : Nat} (h : q + (n - L.length) ≤ d) : ∀ r ∈ rows, q ≤ (lvL L r).length := fun r hr => by
  obtain ⟨g1, g2, g3⟩ := G r hr
  have p := (lv_dd L r).length_eq
  rw [List.length_append, g1] at p
  have h2 : (ddL L r).length ≤ (deadL n L).length := subG_len (g2.filter _) fun y hy => by
    have h1 := List.mem_filter.mp hy
    exact (dead_mem y).mpr ⟨g3 y h1.1, by simpa using h1.2⟩
  have := live_dead aL hL
  omega
theorem Live.enough {n d q : Nat} {L : List Nat} {rows : List (List Nat)} (h : Live n d q L rows) : ∀ r ∈ rows, q ≤ (lvL L r).length := Ef.enough h.tab h.asc h.lt h.fit
theorem Live.const {n d q : Nat} {L : List Nat} {rows : List (List Nat)} (h : Live n d q L rows) : ∃ F, ∀ T ∈ combs L q, heldN L q rows T = F := by
  obtain ⟨p, rfl⟩ : ∃ p, q = p + 1 := ⟨q - 1, by have := h.q1; omega⟩
  have ld := live_dead h.asc h.lt
  have hf := h.fit
  have hq := h.qL
  let w : Nat → Nat := fun s => if hs : s < p + 1 + (n - L.length) then (h.lev s hs).choose else 0
  refine ⟨((subsA (deadL n L)).map fun D => (p + 1) * w (p + D.length)).sum, fun T hT => ?_⟩
  obtain ⟨g1, g2⟩ := combs_good L (p + 1) T hT
  refine held_even h.tab (h.asc.sublist g2) g1 (fun y hy => g2.subset hy) h.lt (dead_asc n L) dead_mem (by omega) h.enough fun s hs => ?_
  have hs2 : s < p + 1 + (n - L.length) := by omega
  have e : w s = (h.lev s hs2).choose := dif_pos hs2
  rw [e]
  exact (h.lev s hs2).choose_spec
/-- every set's share -/
theorem Live.held {n d q : Nat} {L : List Nat} {rows : List (List Nat)} (h : Live n d q L rows) : ∀ T ∈ combs L q, heldN L q rows T * C L.length q = rows.length := by
  obtain ⟨F, hF⟩ := h.const
  have t := held_total h.tab h.asc h.enough
  rw [sum_congr' (g := fun _ => F) hF, sum_const, combsLen] at t
  intro T hT
  rw [hF T hT, Nat.mul_comm]
  exact t
/-- how many lists have a server among the first live ones -/
def ldN (L : List Nat) (q : Nat) (rows : List (List Nat)) (y : Nat) : Nat := rows.countP fun r => decide (y ∈ (lvL L r).take q)
theorem combs_with : ∀ (l : List Nat) (k y : Nat), l.Nodup → y ∈ l → (combs l (k + 1)).countP (fun T => decide (y ∈ T)) = C (l.length - 1) k
  | [], k, y, _, h => absurd h List.not_mem_nil
  | x :: r, k, y, hn, h => by
    obtain ⟨h1, h2⟩ := List.nodup_cons.mp hn
    show ((combs r k).map (x :: ·) ++ combs r (k + 1)).countP _ = C (r.length + 1 - 1) k
    rw [List.countP_append, List.countP_map, Nat.add_sub_cancel]
    by_cases e : y = x
    · subst e
      have a1 : (combs r k).countP ((fun T => decide (y ∈ T)) ∘ fun T => y :: T) = (combs r k).length := List.countP_eq_length.mpr fun T _ => by simp
      have a2 : (combs r (k + 1)).countP (fun T => decide (y ∈ T)) = 0 := List.countP_eq_zero.mpr fun T hT z => h1 ((combs_good r (k + 1) T hT).2.subset (of_decide_eq_true z))
      rw [a1, a2, combsLen]
      rfl
    · have hy : y ∈ r := (List.mem_cons.mp h).resolve_left e
      have rp := List.length_pos_of_mem hy
      have a1 : (combs r k).countP ((fun T => decide (y ∈ T)) ∘ fun T => x :: T) = (combs r k).countP fun T => decide (y ∈ T) := List.countP_congr fun T _ => by simp [e]
      rw [a1, combs_with r k y h2 hy]
      cases k with
      | zero =>
        rw [combs_zero]
        show 0 + C (r.length - 1) 0 = C r.length 0
        rw [C_zero, C_zero]
      | succ k =>
        rw [combs_with r k y h2 hy]
        obtain ⟨m, em⟩ : ∃ m, r.length = m + 1 := ⟨r.length - 1, by omega⟩
        rw [em]
        rfl
theorem Live.load {n d q : Nat} {L : List Nat} {rows : List (List Nat)} (h : Live n d q L rows) : ∀ y ∈ L, ldN L q rows y * L.length = rows.length * q := fun y hy => by
  obtain ⟨p, rfl⟩ : ∃ p, q = p + 1 := ⟨q - 1, by have := h.q1; omega⟩
  obtain ⟨F, hF⟩ := h.const
  have hq := h.qL
  have t := held_total h.tab h.asc h.enough
  rw [sum_congr' (g := fun _ => F) hF, sum_const, combsLen] at t
  -- the sets with this server
  have e1 : ldN L (p + 1) rows y = (((combs L (p + 1)).filter fun T => decide (y ∈ T)).map fun T => heldN L (p + 1) rows T).sum := by
    have e2 : (((combs L (p + 1)).filter fun T => decide (y ∈ T)).map fun T => heldN L (p + 1) rows T) = ((combs L (p + 1)).filter fun T => decide (y ∈ T)).map fun T => rows.countP ((fun T r => decide (srt ((lvL L r).take (p + 1)) = T)) T) := rfl
    rw [e2, swap_sum]
    unfold ldN
    rw [← sum_ind]
    refine sum_congr' fun r hr => ?_
    have hm := first_mem h.tab h.asc h.enough r hr
    have nd := (combsNodup L (p + 1) (asc_nodup h.asc)).filter fun T => decide (y ∈ T)
    have pm := srt_perm ((lvL L r).take (p + 1))
    by_cases c : y ∈ (lvL L r).take (p + 1)
    · rw [if_pos (decide_eq_true c)]
      exact (combs_one nd (List.mem_filter.mpr ⟨hm, decide_eq_true (pm.mem_iff.mpr c)⟩)).symm
    · rw [if_neg (fun z => c (of_decide_eq_true z))]
      refine (List.countP_eq_zero.mpr fun T hT z => c ?_).symm
      have hT2 := of_decide_eq_true (List.mem_filter.mp hT).2
      rw [← of_decide_eq_true z] at hT2
      exact pm.mem_iff.mp hT2
  have e3 : ((combs L (p + 1)).filter fun T => decide (y ∈ T)).length = C (L.length - 1) p := by
    rw [← List.countP_eq_length_filter]
    exact combs_with L p y (asc_nodup h.asc) hy
  rw [e1, sum_congr' (g := fun _ => F) fun T hT => hF T (List.mem_filter.mp hT).1, sum_const, e3, ← t]
  have e4 := edge_alt2 (n := L.length) (i := p) (by omega)
  rw [Nat.mul_right_comm, Nat.mul_comm (C (L.length - 1) p) L.length, ← e4, Nat.mul_right_comm]
/-! what the levels do not tell: the order of the rows, the names of the servers -/
theorem Lev.perm {n s w : Nat} {rows rows' : List (List Nat)} (p : rows'.Perm rows) (h : Lev n s w rows) : Lev n s w rows' := fun e he => (cE_perm (p.map _) e).trans (h e he)
theorem Tab.perm {n d : Nat} {rows rows' : List (List Nat)} (p : rows'.Perm rows) (h : Tab n d rows) : Tab n d rows' := fun r hr => h r (p.mem_iff.mp hr)
/-- servers renamed -/
structure Names (n : Nat) (f g : Nat → Nat) : Prop where
  fn : ∀ x, x < n → f x < n
  gn : ∀ x, x < n → g x < n
  gf : ∀ x, x < n → g (f x) = x
  fg : ∀ x, x < n → f (g x) = x
theorem names_of {n : Nat} {ns : List Nat} (p : ns.Perm (List.range' 0 n)) : Names n (fun x => ns.getD x 0) (fun y => ns.idxOf y) := by
  have hl : ns.length = n := by
    rw [p.length_eq, List.length_range']
  have nd : ns.Nodup := p.nodup_iff.mpr (asc_nodup (asc_range' n 0))
  have at_ : ∀ x, x < n → ns[x]? = some (ns.getD x 0) := fun x hx => getD_of (by omega)
  have mem : ∀ y, y < n → y ∈ ns := fun y hy => p.mem_iff.mpr (mem_range0.mpr hy)
  refine ⟨fun x hx => mem_range0.mp (p.mem_iff.mp (List.mem_of_getElem? (at_ x hx))), fun x hx => ?_, fun x hx => ?_, fun x hx => ?_⟩
  · have := List.idxOf_lt_length_of_mem (mem x hx)
    omega
  · have h1 := at_ x hx
    have h2 := idx_at (List.mem_of_getElem? h1)
    exact nodup_inj nd h2 h1
  · show ns.getD (ns.idxOf x) 0 = x
    rw [List.getD_eq_getElem?_getD, idx_at (mem x hx)]
    rfl
theorem Names.inj {n : Nat} {f g : Nat → Nat} (N : Names n f g) {a b : Nat} (ha : a < n) (hb : b < n) (e : f a = f b) : a = b := by
  rw [← N.gf a ha, ← N.gf b hb, e]
theorem Names.tab {n d : Nat} {f g : Nat → Nat} {rows : List (List Nat)} (N : Names n f g) (h : Tab n d rows) : Tab n d (rows.map fun r => r.map f) := fun r hr => by
  obtain ⟨r0, hr0, rfl⟩ := List.mem_map.mp hr
  obtain ⟨h1, h2, h3⟩ := h r0 hr0
  refine ⟨by rw [List.length_map]; exact h1, ?_, fun x hx => ?_⟩
  · refine List.pairwise_map.mpr (List.Pairwise.imp_of_mem (fun {a b} ha hb hab e => hab (N.inj (h3 a ha) (h3 b hb) e)) h2)
  · obtain ⟨y, hy, rfl⟩ := List.mem_map.mp hx
    exact N.fn y (h3 y hy)
theorem map_back {n : Nat} {f g : Nat → Nat} {l : List Nat} (hl : ∀ x ∈ l, x < n) (h : ∀ x, x < n → g (f x) = x) : (l.map f).map g = l := by
  rw [List.map_map]
  conv => rhs; rw [← List.map_id l]
  exact List.map_congr_left fun x hx => h x (hl x hx)
theorem Names.lev {n d s w : Nat} {f g : Nat → Nat} {rows : List (List Nat)} (N : Names n f g) (G : Tab n d rows) (hs : s < d) (h : Lev n s w rows) : Lev n s w (rows.map fun r => r.map f) := fun e he => by
  obtain ⟨x, hx, he⟩ := List.mem_flatMap.mp he
  obtain ⟨S, hS, rfl⟩ := List.mem_map.mp he
  obtain ⟨g1, g2⟩ := combs_good _ _ _ hS
  have hxn := List.mem_range.mp hx
  have memS : ∀ y ∈ S, y < n ∧ y ≠ x := fun y hy => by
    have := List.mem_filter.mp (g2.subset hy)
    exact ⟨List.mem_range.mp this.1, by simpa using this.2⟩
  have ascS : Asc S := (without_asc n x).sublist g2
  have hin : (srt (S.map g), g x) ∈ allE n s := by
    have pm := srt_perm (S.map g)
    have nd : (S.map g).Nodup := List.pairwise_map.mpr (List.Pairwise.imp_of_mem (fun {a b} ha hb hab e => hab (by rw [← N.fg a (memS a ha).1, ← N.fg b (memS b hb).1, e])) (asc_nodup ascS))
    refine allE_mem (N.gn x hxn) (by rw [pm.length_eq, List.length_map, g1]) (srt_asc nd) fun y hy => ?_
    obtain ⟨z, hz, rfl⟩ := List.mem_map.mp (pm.mem_iff.mp hy)
    exact ⟨N.gn z (memS z hz).1, fun e => (memS z hz).2 (by rw [← N.fg z (memS z hz).1, ← N.fg x hxn, e])⟩
  rw [← h _ hin, List.map_map, cE_map, cE_map]
  refine List.countP_congr fun r hr => ?_
  obtain ⟨h1, h2, h3⟩ := G r hr
  have hlt : s < r.length := by omega
  rw [decide_eq_true_iff, decide_eq_true_iff]
  have ex : (r.map f).getD s 0 = f (r.getD s 0) := by
    rw [List.getD_eq_getElem?_getD, List.getD_eq_getElem?_getD, List.getElem?_map, List.getElem?_eq_getElem hlt]
    rfl
  have hrs : r.getD s 0 < n := by
    rw [List.getD_eq_getElem?_getD, List.getElem?_eq_getElem hlt]
    exact h3 _ (List.getElem_mem _)
  have ht : ∀ y ∈ r.take s, y < n := fun y hy => h3 y (List.mem_of_mem_take hy)
  show edgE s (r.map f) = (S, x) ↔ edgE s r = (srt (S.map g), g x)
  unfold edgE
  rw [ex, ← List.map_take]
  constructor
  · intro e
    have e1 : srt ((r.take s).map f) = S := congrArg Prod.fst e
    have e2 : f (r.getD s 0) = x := congrArg Prod.snd e
    have p1 : ((r.take s).map f).Perm S := (srt_perm _).symm.trans (e1 ▸ List.Perm.refl _)
    have p2 := p1.map g
    rw [map_back ht N.gf] at p2
    rw [srt_eq p2, ← e2, N.gf _ hrs]
  · intro e
    have e1 : srt (r.take s) = srt (S.map g) := congrArg Prod.fst e
    have e2 : r.getD s 0 = g x := congrArg Prod.snd e
    have p2 := (perm_of_srt e1).map f
    rw [map_back (fun y hy => (memS y hy).1) N.fg] at p2
    rw [srt_eq p2, srt_self ascS, e2, N.fg x hxn]
end Ef
namespace Ef
/-! ### the edges of a level in order -/
def dueE (n s : Nat) : List (List Nat × Nat) := (combs (List.range' 0 n) s).flatMap fun c => ((List.range' 0 n).filter fun x => !decide (x ∈ c)).map fun x => (c, x)
theorem combs_lex : ∀ (l : List Nat) (k : Nat), Asc l → (combs l k).Pairwise LexLe
  | l, 0, _ => by
    rw [combs_zero]
    exact List.pairwise_singleton _ _
  | [], k + 1, _ => List.Pairwise.nil
  | x :: r, k + 1, h => by
    obtain ⟨h1, h2⟩ := List.pairwise_cons.mp h
    show ((combs r k).map (x :: ·) ++ combs r (k + 1)).Pairwise LexLe
    refine List.pairwise_append.mpr ⟨List.pairwise_map.mpr ((combs_lex r k h2).imp fun z => z.cons_eq), combs_lex r (k + 1) h2, fun a ha b hb => ?_⟩
    obtain ⟨c, _, rfl⟩ := List.mem_map.mp ha
    obtain ⟨g1, g2⟩ := combs_good r (k + 1) b hb
    cases b with
    | nil => cases g1
    | cons y b => exact LexLe.cons_lt (h1 y (g2.subset List.mem_cons_self))
/-- e is not behind e' -/
def ELe (e e' : List Nat × Nat) : Prop := (e.1 = e'.1 ∧ e.2 ≤ e'.2) ∨ (e.1 ≠ e'.1 ∧ LexLe e.1 e'.1)
theorem dueE_asc (n s : Nat) : (dueE n s).Pairwise ELe := by
  unfold dueE
  have key : ∀ l : List (List Nat), l.Pairwise LexLe → l.Nodup → (l.flatMap fun c => ((List.range' 0 n).filter fun x => !decide (x ∈ c)).map fun x => (c, x)).Pairwise ELe := by
    intro l
    induction l with
    | nil => intro _ _; exact List.Pairwise.nil
    | cons c l ih =>
      intro h hn
      obtain ⟨h1, h2⟩ := List.pairwise_cons.mp h
      obtain ⟨n1, n2⟩ := List.nodup_cons.mp hn
      rw [List.flatMap_cons]
      refine List.pairwise_append.mpr ⟨List.pairwise_map.mpr (((asc_range' n 0).filter _).imp fun z => .inl ⟨rfl, Nat.le_of_lt z⟩), ih h2 n2, fun a ha b hb => ?_⟩
      obtain ⟨x, _, rfl⟩ := List.mem_map.mp ha
      obtain ⟨c', hc', hb⟩ := List.mem_flatMap.mp hb
      obtain ⟨y, _, rfl⟩ := List.mem_map.mp hb
      exact .inr ⟨fun e => n1 (by rw [show c = c' from e]; exact hc'), h1 c' hc'⟩
  exact key _ (combs_lex _ s (asc_range' n 0)) (combsNodup _ s (asc_nodup (asc_range' n 0)))
theorem dueE_nodup (n s : Nat) : (dueE n s).Nodup := by
  unfold dueE
  have key : ∀ l : List (List Nat), l.Nodup → (l.flatMap fun c => ((List.range' 0 n).filter fun x => !decide (x ∈ c)).map fun x => (c, x)).Nodup := by
    intro l
    induction l with
    | nil => intro _; exact List.nodup_nil
    | cons c l ih =>
      intro hn
      obtain ⟨n1, n2⟩ := List.nodup_cons.mp hn
      rw [List.flatMap_cons]
      refine List.nodup_append.mpr ⟨List.Pairwise.map _ (fun a b hab z => hab (congrArg Prod.snd z)) ((asc_nodup (asc_range' n 0)).filter _), ih n2, fun a ha b hb e => ?_⟩
      obtain ⟨x, _, rfl⟩ := List.mem_map.mp ha
      obtain ⟨c', hc', hb⟩ := List.mem_flatMap.mp hb
      obtain ⟨y, _, rfl⟩ := List.mem_map.mp hb
      have : c = c' := congrArg Prod.fst e
      exact n1 (by rw [this]; exact hc')
  exact key _ (combsNodup _ s (asc_nodup (asc_range' n 0)))
theorem dueE_mem {n s : Nat} {e : List Nat × Nat} : e ∈ dueE n s ↔ e ∈ allE n s := by
  obtain ⟨c, x⟩ := e
  unfold dueE
  constructor
  · intro h
    obtain ⟨c', hc, h⟩ := List.mem_flatMap.mp h
    obtain ⟨y, hy, e⟩ := List.mem_map.mp h
    obtain ⟨h1, h2⟩ := List.mem_filter.mp hy
    obtain ⟨g1, g2⟩ := combs_good _ _ c' hc
    obtain ⟨rfl, rfl⟩ := Prod.mk.inj e
    have h2' : y ∉ c' := by simpa using h2
    exact allE_mem (mem_range0.mp h1) g1 ((asc_range' n 0).sublist g2) fun z hz => ⟨mem_range0.mp (g2.subset hz), fun e => h2' (e ▸ hz)⟩
  · intro h
    have h := h
    unfold allE at h
    obtain ⟨y, hy, h⟩ := List.mem_flatMap.mp h
    obtain ⟨c', hc, e⟩ := List.mem_map.mp h
    obtain ⟨rfl, rfl⟩ := Prod.mk.inj e
    obtain ⟨g1, g2⟩ := combs_good _ _ c' hc
    have mem : ∀ z ∈ c', z < n ∧ z ≠ y := fun z hz => by
      have := g2.subset hz
      unfold without at this
      obtain ⟨a1, a2⟩ := List.mem_filter.mp this
      exact ⟨List.mem_range.mp a1, by simpa using a2⟩
    have sub := ascSub ((without_asc n y).sublist g2) (asc_range' n 0) fun z hz => mem_range0.mpr (mem z hz).1
    have hc2 := combs_mem _ _ sub
    rw [g1] at hc2
    refine List.mem_flatMap.mpr ⟨c', hc2, List.mem_map.mpr ⟨y, List.mem_filter.mpr ⟨mem_range0.mpr (List.mem_range.mp hy), ?_⟩, rfl⟩⟩
    have : y ∉ c' := fun z => (mem y z).2 rfl
    simpa using this
theorem LexLe.anti {a b : List Nat} (h : LexLe a b) (g : LexLe b a) : a = b := by
  have h1 : intL a ≤ intL b := List.not_lt.mp h
  have h2 : intL b ≤ intL a := List.not_lt.mp g
  have e := List.le_antisymm h1 h2
  clear h g h1 h2
  induction a generalizing b with
  | nil =>
    cases b with
    | nil => rfl
    | cons y s => cases e
  | cons x r ih =>
    cases b with
    | nil => cases e
    | cons y s =>
      have e2 : (x : Int) :: intL r = (y : Int) :: intL s := e
      injection e2 with e3 e4
      rw [ih e4, show x = y by omega]
end Ef
namespace Ef
/-! ### shares of weights -/
def qs : List Rat → Rat
  | [] => 0
  | x :: l => x + qs l
theorem qs_app : ∀ a b : List Rat, qs (a ++ b) = qs a + qs b
  | [], b => by simp only [List.nil_append, qs]; grind
  | x :: a, b => by simp only [List.cons_append, qs, qs_app a b]; grind
theorem qs_perm {a b : List Rat} (h : a.Perm b) : qs a = qs b := by
  induction h with
  | nil => rfl
  | cons x _ ih => simp only [qs, ih]
  | swap x y l => simp only [qs]; grind
  | trans _ _ h1 h2 => rw [h1, h2]
theorem qs_map_add {α : Type} (f g : α → Rat) : ∀ l : List α, qs (l.map fun x => f x + g x) = qs (l.map f) + qs (l.map g)
  | [] => by simp only [List.map_nil, qs]; grind
  | x :: l => by simp only [List.map_cons, qs, qs_map_add f g l]; grind
theorem qs_map_sub {α : Type} (f g : α → Rat) : ∀ l : List α, qs (l.map fun x => f x - g x) = qs (l.map f) - qs (l.map g)
  | [] => by simp only [List.map_nil, qs]; grind
  | x :: l => by simp only [List.map_cons, qs, qs_map_sub f g l]; grind
theorem qs_map_mul {α : Type} (c : Rat) (f : α → Rat) : ∀ l : List α, qs (l.map fun x => c * f x) = c * qs (l.map f)
  | [] => by simp only [List.map_nil, qs]; grind
  | x :: l => by simp only [List.map_cons, qs, qs_map_mul c f l]; grind
theorem qs_pos : ∀ l : List Rat, (∀ x ∈ l, 0 < x) → l ≠ [] → 0 < qs l
  | [], _, h => absurd rfl h
  | [x], h, _ => by
    have := h x List.mem_cons_self
    simp only [qs]
    grind
  | x :: y :: l, h, _ => by
    have h1 := h x List.mem_cons_self
    have h2 := qs_pos (y :: l) (fun z hz => h z (List.mem_cons_of_mem _ hz)) (by simp)
    simp only [qs] at h2 ⊢
    grind
def wS (w : Nat → Nat) (l : List Nat) : Nat := (l.map w).sum
theorem wS_app (w : Nat → Nat) (a b : List Nat) : wS w (a ++ b) = wS w a + wS w b := by
  unfold wS
  rw [List.map_append, List.sum_append_nat]
theorem wS_perm {w : Nat → Nat} {a b : List Nat} (h : a.Perm b) : wS w a = wS w b := by
  unfold wS
  exact (h.map w).sum_nat
theorem wS_cons (w : Nat → Nat) (x : Nat) (a : List Nat) : wS w (x :: a) = w x + wS w a := rfl
/-- the signed sum over all subsets -/
def invR (w : Nat → Nat) : List Nat → Rat → Rat
  | [], a => 1 / a
  | s :: S, a => invR w S a - invR w S (a + (w s : Rat))
def picks : List Nat → List (Nat × List Nat)
  | [] => []
  | s :: S => (s, S) :: (picks S).map fun p => (p.1, s :: p.2)
def gR (w : Nat → Nat) (S : List Nat) (a : Rat) : Rat := qs ((picks S).map fun p => (w p.1 : Rat) * invR w p.2 (a + (w p.1 : Rat)))
theorem gR_cons (w : Nat → Nat) (s : Nat) (S : List Nat) (a : Rat) : gR w (s :: S) a = (w s : Rat) * invR w S (a + (w s : Rat)) + gR w S a - gR w S (a + (w s : Rat)) := by
  unfold gR
  show (w s : Rat) * invR w S (a + (w s : Rat)) + qs (((picks S).map fun p => (p.1, s :: p.2)).map _) = _
  rw [List.map_map]
  have : ((fun p : Nat × List Nat => (w p.1 : Rat) * invR w p.2 (a + (w p.1 : Rat))) ∘ fun p : Nat × List Nat => (p.1, s :: p.2)) = fun p : Nat × List Nat => (w p.1 : Rat) * invR w p.2 (a + (w p.1 : Rat)) - (w p.1 : Rat) * invR w p.2 (a + (w s : Rat) + (w p.1 : Rat)) := by
    funext p
    show (w p.1 : Rat) * (invR w p.2 (a + (w p.1 : Rat)) - invR w p.2 (a + (w p.1 : Rat) + (w s : Rat))) = _
    rw [show a + (w p.1 : Rat) + (w s : Rat) = a + (w s : Rat) + (w p.1 : Rat) by grind]
    grind
  rw [this, qs_map_sub]
  grind
theorem gR_is (w : Nat → Nat) : ∀ (S : List Nat) (a : Rat), 0 < a → gR w S a = a * invR w S a - (if S = [] then 1 else 0)
  | [], a, h => by
    show (0 : Rat) = a * (1 / a) - 1
    grind
  | s :: S, a, h => by
    have hw : (0 : Rat) ≤ (w s : Rat) := by exact_mod_cast Nat.zero_le (w s)
    rw [gR_cons, gR_is w S a h, gR_is w S (a + (w s : Rat)) (by grind), if_neg (List.cons_ne_nil s S)]
    show _ = a * (invR w S a - invR w S (a + (w s : Rat))) - 0
    grind
/-- the servers outside -/
def cp (n : Nat) (S : List Nat) : List Nat := (List.range' 0 n).filter fun x => !decide (x ∈ S)
/-- the chance to stand at a set; the level share -/
def pcQ (w : Nat → Nat) (n : Nat) (S : List Nat) : Rat := (wS w (cp n S) : Rat) * invR w S (wS w (cp n S) : Rat)
def lvQ (w : Nat → Nat) (n : Nat) (S : List Nat) (x : Nat) : Rat := (w x : Rat) * invR w S (wS w (cp n S) : Rat)
theorem invR_perm (w : Nat → Nat) {S T : List Nat} (h : S.Perm T) : ∀ a, invR w S a = invR w T a := by
  induction h with
  | nil => exact fun _ => rfl
  | cons x _ ih => exact fun a => by show invR w _ a - invR w _ _ = invR w _ a - invR w _ _; rw [ih, ih]
  | swap x y l =>
    intro a
    show (invR w l a - invR w l (a + (w x : Rat))) - (invR w l (a + (w y : Rat)) - invR w l (a + (w y : Rat) + (w x : Rat))) = (invR w l a - invR w l (a + (w y : Rat))) - (invR w l (a + (w x : Rat)) - invR w l (a + (w x : Rat) + (w y : Rat)))
    rw [show a + (w y : Rat) + (w x : Rat) = a + (w x : Rat) + (w y : Rat) by grind]
    grind
  | trans _ _ h1 h2 => exact fun a => (h1 a).trans (h2 a)
theorem picks_perm : ∀ (S : List Nat) (p : Nat × List Nat), p ∈ picks S → (p.1 :: p.2).Perm S
  | [], p, h => by cases h
  | s :: S, p, h => by
    rcases List.mem_cons.mp h with rfl | h
    · exact List.Perm.refl _
    · obtain ⟨q, hq, rfl⟩ := List.mem_map.mp h
      exact (List.Perm.swap s q.1 q.2).trans ((picks_perm S q hq).cons s)
theorem picks_sub : ∀ (S : List Nat) (p : Nat × List Nat), p ∈ picks S → p.2.Sublist S
  | [], p, h => by cases h
  | s :: S, p, h => by
    rcases List.mem_cons.mp h with rfl | h
    · exact List.sublist_cons_self _ _
    · obtain ⟨q, hq, rfl⟩ := List.mem_map.mp h
      exact (picks_sub S q hq).cons_cons s
theorem picks_len : ∀ (S : List Nat), (picks S).length = S.length
  | [] => rfl
  | s :: S => by show ((picks S).map _).length + 1 = _; rw [List.length_map, picks_len S]; rfl
theorem picks_fst : ∀ (S : List Nat), (picks S).map (·.1) = S
  | [] => rfl
  | s :: S => by
    show s :: ((picks S).map fun p => (p.1, s :: p.2)).map (·.1) = s :: S
    rw [List.map_map]
    exact congrArg (List.cons s) (picks_fst S)
theorem picks_mem {S : List Nat} (x : Nat) (h : x ∈ S) : ∃ T, (x, T) ∈ picks S := by
  rw [← picks_fst S] at h
  obtain ⟨p, hp, rfl⟩ := List.mem_map.mp h
  exact ⟨p.2, hp⟩
theorem cp_perm {n : Nat} {S : List Nat} (hS : S.Nodup) (hn : ∀ x ∈ S, x < n) : (S ++ cp n S).Perm (List.range' 0 n) := by
  refine (List.perm_ext_iff_of_nodup ?_ List.nodup_range').mpr fun x => ?_
  · refine List.nodup_append.mpr ⟨hS, (asc_nodup (asc_range' n 0)).filter _, fun a ha b hb e => ?_⟩
    have := (List.mem_filter.mp hb).2
    rw [← e] at this
    simp at this
    exact this ha
  · rw [List.mem_append]
    unfold cp
    rw [List.mem_filter, mem_range0]
    by_cases h : x ∈ S
    · exact ⟨fun _ => hn x h, fun _ => .inl h⟩
    · simp [h]
theorem cp_w {w : Nat → Nat} {n : Nat} {S : List Nat} (hS : S.Nodup) (hn : ∀ x ∈ S, x < n) : wS w S + wS w (cp n S) = wS w (List.range' 0 n) := by
  rw [← wS_app]
  exact wS_perm (cp_perm hS hn)
theorem cp_len {n : Nat} {S : List Nat} (hS : S.Nodup) (hn : ∀ x ∈ S, x < n) : S.length + (cp n S).length = n := by
  have := (cp_perm hS hn).length_eq
  rw [List.length_append, List.length_range'] at this
  exact this
/-- what arrives at a set leaves it -/
theorem chance_step {w : Nat → Nat} {n : Nat} {S : List Nat} (hS : S.Nodup) (hn : ∀ x ∈ S, x < n) (h0 : S ≠ []) (hp : 0 < wS w (cp n S)) : qs ((picks S).map fun p => lvQ w n p.2 p.1) = pcQ w n S := by
  have e : (picks S).map (fun p => lvQ w n p.2 p.1) = (picks S).map fun p => (w p.1 : Rat) * invR w p.2 ((wS w (cp n S) : Rat) + (w p.1 : Rat)) := by
    refine List.map_congr_left fun p hpk => ?_
    have pm := picks_perm S p hpk
    have hnd : (p.1 :: p.2).Nodup := pm.nodup_iff.mpr hS
    have h1 := cp_w (w := w) hS hn
    have h2 := cp_w (w := w) (n := n) (List.nodup_cons.mp hnd).2 fun x hx => hn x (pm.mem_iff.mp (List.mem_cons_of_mem _ hx))
    have h3 := wS_perm (w := w) pm
    rw [wS_cons] at h3
    have h4 : wS w (cp n p.2) = wS w (cp n S) + w p.1 := by omega
    unfold lvQ
    rw [h4]
    congr 2
    exact_mod_cast rfl
  rw [e]
  have := gR_is w S (wS w (cp n S) : Rat) (by exact_mod_cast hp)
  rw [if_neg h0] at this
  unfold gR at this
  unfold pcQ
  rw [this]
  grind
theorem chance_nil {w : Nat → Nat} {n : Nat} (hp : 0 < wS w (cp n [])) : pcQ w n [] = 1 := by
  unfold pcQ
  show (_ : Rat) * (1 / _) = 1
  have : (0 : Rat) < (wS w (cp n []) : Rat) := by exact_mod_cast hp
  grind
theorem lv_pc {w : Nat → Nat} {n : Nat} {S : List Nat} {x : Nat} (hp : 0 < wS w (cp n S)) : lvQ w n S x = pcQ w n S * (w x : Rat) / (wS w (cp n S) : Rat) := by
  unfold pcQ lvQ
  have : (0 : Rat) < (wS w (cp n S) : Rat) := by exact_mod_cast hp
  grind
theorem q_div_pos {a b : Rat} (h1 : 0 < a) (h2 : 0 < b) : 0 < a / b := by
  rw [Rat.div_def]
  exact Rat.mul_pos h1 (Rat.inv_pos.mpr h2)
theorem wS_pos {w : Nat → Nat} (hw : ∀ x, 0 < w x) : ∀ l : List Nat, l ≠ [] → 0 < wS w l
  | [], h => absurd rfl h
  | x :: l, _ => by
    have := hw x
    rw [wS_cons]
    omega
theorem pc_pos {w : Nat → Nat} (hw : ∀ x, 0 < w x) {n : Nat} : ∀ (k : Nat) (S : List Nat), S.length = k → S.Nodup → (∀ x ∈ S, x < n) → k < n → 0 < pcQ w n S
  | 0, S, hl, hS, hn, hk => by
    rw [List.length_eq_zero_iff.mp hl]
    have e := cp_len (n := n) (S := []) List.nodup_nil (fun x hx => absurd hx List.not_mem_nil)
    rw [chance_nil (wS_pos hw _ (fun z => by rw [z] at e; simp at e; omega))]
    decide
  | k + 1, S, hl, hS, hn, hk => by
    have e := cp_len hS hn
    have hp := wS_pos hw (cp n S) (fun z => by rw [z] at e; simp at e; omega)
    rw [← chance_step hS hn (fun z => by rw [z] at hl; cases hl) hp]
    refine qs_pos _ (fun q hq => ?_) (fun z => ?_)
    · obtain ⟨p, hpk, rfl⟩ := List.mem_map.mp hq
      have pm := picks_perm S p hpk
      have hnd := List.nodup_cons.mp (pm.nodup_iff.mpr hS)
      have hl2 := pm.length_eq
      rw [List.length_cons] at hl2
      have hn2 : ∀ x ∈ p.2, x < n := fun x hx => hn x (pm.mem_iff.mp (List.mem_cons_of_mem _ hx))
      have e2 := cp_len hnd.2 hn2
      have hp2 := wS_pos hw (cp n p.2) (fun z => by rw [z] at e2; simp at e2; omega)
      rw [lv_pc hp2]
      refine q_div_pos (Rat.mul_pos (pc_pos hw k p.2 (by omega) hnd.2 hn2 (by omega)) (by exact_mod_cast hw p.1)) (by exact_mod_cast hp2)
    · have := congrArg List.length z
      rw [List.length_map, picks_len] at this
      simp at this
      rw [this] at hl
      cases hl
theorem lv_pos {w : Nat → Nat} (hw : ∀ x, 0 < w x) {n : Nat} {S : List Nat} {x : Nat} (hS : S.Nodup) (hn : ∀ x ∈ S, x < n) (hk : S.length < n) : 0 < lvQ w n S x := by
  have e := cp_len hS hn
  have hp := wS_pos hw (cp n S) (fun z => by rw [z] at e; simp at e; omega)
  rw [lv_pc hp]
  exact q_div_pos (Rat.mul_pos (pc_pos hw _ S rfl hS hn hk) (by exact_mod_cast hw x)) (by exact_mod_cast hp)
/-! the sum over all sizes, as the program makes it -/
def sgn (k : Nat) : Rat := if k % 2 = 0 then 1 else -1
theorem sgn_succ (k : Nat) : sgn (k + 1) = -sgn k := by
  unfold sgn
  by_cases h : k % 2 = 0
  · rw [if_pos h, if_neg (by omega)]
  · rw [if_neg h, if_pos (by omega)]
    grind
def sumC (f : List Nat → Rat) (S : List Nat) (k : Nat) : Rat := qs ((combs S k).map f)
def sumT (f : List Nat → Rat) (S : List Nat) (m : Nat) : Rat := qs ((List.range m).map fun k => sgn k * sumC f S k)
theorem sumT_succ (f : List Nat → Rat) (S : List Nat) (m : Nat) : sumT f S (m + 1) = sumT f S m + sgn m * sumC f S m := by
  unfold sumT
  rw [List.range_succ, List.map_append, qs_app]
  simp only [List.map_cons, List.map_nil, qs]
  grind
theorem sumC_zero (f : List Nat → Rat) (S : List Nat) : sumC f S 0 = f [] := by
  unfold sumC
  rw [combs_zero]
  simp only [List.map_cons, List.map_nil, qs]
  grind
theorem sumC_cons (f : List Nat → Rat) (s : Nat) (S : List Nat) (k : Nat) : sumC f (s :: S) (k + 1) = sumC (fun T => f (s :: T)) S k + sumC f S (k + 1) := by
  unfold sumC
  show qs (((combs S k).map (s :: ·) ++ combs S (k + 1)).map f) = _
  rw [List.map_append, qs_app, List.map_map]
  rfl
theorem sumT_cons (f : List Nat → Rat) (s : Nat) (S : List Nat) : ∀ m, sumT f (s :: S) (m + 1) = sumT f S (m + 1) - sumT (fun T => f (s :: T)) S m
  | 0 => by
    rw [sumT_succ, sumT_succ, sumC_zero, sumC_zero]
    simp only [sumT, List.range_zero, List.map_nil, qs]
    grind
  | m + 1 => by
    rw [sumT_succ, sumT_cons f s S m, sumT_succ f S (m + 1), sumT_succ (fun T => f (s :: T)) S m, sumC_cons, sgn_succ]
    grind
theorem sumC_short (f : List Nat → Rat) (S : List Nat) (k : Nat) (h : S.length < k) : sumC f S k = 0 := by
  unfold sumC
  rw [combs_short S k h]
  rfl
theorem sumT_is (w : Nat → Nat) : ∀ (S : List Nat) (a : Rat), sumT (fun T => 1 / (a + (wS w T : Rat))) S (S.length + 1) = invR w S a
  | [], a => by
    show sumT _ [] 1 = 1 / a
    rw [sumT_succ, sumC_zero]
    simp only [sumT, List.range_zero, List.map_nil, qs, wS, sgn]
    show (0 : Rat) + 1 * (1 / (a + 0)) = 1 / a
    grind
  | s :: S, a => by
    show sumT _ (s :: S) (S.length + 1 + 1) = invR w S a - invR w S (a + (w s : Rat))
    rw [sumT_cons, sumT_succ, sumC_short _ _ _ (Nat.lt_succ_self _), sumT_is w S a, ← sumT_is w S (a + (w s : Rat))]
    have : (fun T : List Nat => (1 : Rat) / (a + (wS w (s :: T) : Rat))) = fun T => 1 / (a + (w s : Rat) + (wS w T : Rat)) := by
      funext T
      rw [wS_cons, show (a + ((w s + wS w T : Nat) : Rat)) = a + (w s : Rat) + (wS w T : Rat) by push_cast; grind]
    rw [this]
    grind
theorem qs_congr {α : Type} {f g : α → Rat} {l : List α} (h : ∀ x ∈ l, f x = g x) : qs (l.map f) = qs (l.map g) := by
  rw [List.map_congr_left h]
/-- the share of a server among others -/
def shQ (w : Nat → Nat) (l : List Nat) (x : Nat) : Rat := (w x : Rat) / (wS w l : Rat)
theorem sumT_lv (w : Nat → Nat) (n : Nat) (S : List Nat) (x : Nat) : sumT (fun T => shQ w (cp n S ++ T) x) S (S.length + 1) = lvQ w n S x := by
  unfold lvQ
  rw [← sumT_is]
  unfold sumT
  rw [← qs_map_mul]
  refine qs_congr fun k _ => ?_
  unfold sumC
  have e := qs_map_mul (w x : Rat) (fun T => 1 / ((wS w (cp n S) : Rat) + (wS w T : Rat))) (combs S k)
  have e2 : qs ((combs S k).map fun T => shQ w (cp n S ++ T) x) = qs ((combs S k).map fun T => (w x : Rat) * (1 / ((wS w (cp n S) : Rat) + (wS w T : Rat)))) := by
    refine qs_congr fun T _ => ?_
    unfold shQ
    rw [wS_app, show ((wS w (cp n S) + wS w T : Nat) : Rat) = (wS w (cp n S) : Rat) + (wS w T : Rat) by push_cast; rfl]
    grind
  rw [e2, e]
  grind
/-! fractions made equal in the denominator -/
theorem q_is (q : Rat) : q = (q.num : Rat) / ((q.den : Nat) : Rat) := by
  rw [← Rat.mkRat_eq_div, Rat.mkRat_self]
theorem stepL_le (a b : Nat) : stepL a b ≤ a * b := Nat.mul_le_mul_right b (Nat.div_le_self _ _)
theorem frac_step (N sg : Int) (D : Nat) (q : Rat) (hD : 0 < D) : ((N * ((stepL D q.den / D : Nat) : Int) + sg * q.num * ((stepL D q.den / q.den : Nat) : Int) : Int) : Rat) / ((stepL D q.den : Nat) : Rat) = (N : Rat) / ((D : Nat) : Rat) + (sg : Rat) * q := by
  have hd : 0 < q.den := q.den_pos
  obtain ⟨⟨k1, e1⟩, ⟨k2, e2⟩⟩ := (stepL_dvd D q.den _).mp (Nat.dvd_refl _)
  have hc := stepL_pos hD hd
  generalize stepL D q.den = c at e1 e2 hc
  have h1 : c / D = k1 := by rw [e1]; exact Nat.mul_div_cancel_left k1 hD
  have h2 : c / q.den = k2 := by rw [e2]; exact Nat.mul_div_cancel_left k2 hd
  rw [h1, h2]
  have f1 : ((c : Nat) : Rat) = (D : Rat) * (k1 : Rat) := by rw [e1]; push_cast; rfl
  have f2 : ((c : Nat) : Rat) = (q.den : Rat) * (k2 : Rat) := by rw [e2]; push_cast; rfl
  have g0 : ((c : Nat) : Rat) ≠ 0 := by exact_mod_cast (Nat.ne_of_gt hc)
  have g1 : ((D : Nat) : Rat) ≠ 0 := by exact_mod_cast (Nat.ne_of_gt hD)
  have g2 : ((q.den : Nat) : Rat) ≠ 0 := by exact_mod_cast (Nat.ne_of_gt hd)
  have hq := q_is q
  push_cast
  generalize ((c : Nat) : Rat) = C at *
  generalize ((D : Nat) : Rat) = D' at *
  generalize ((q.den : Nat) : Rat) = d at *
  generalize ((k1 : Nat) : Rat) = x at *
  generalize ((k2 : Nat) : Rat) = y at *
  generalize (q.num : Rat) = m at *
  generalize (N : Rat) = n' at *
  generalize (sg : Rat) = s at *
  rw [hq]
  grind
theorem frac_size {N sg m : Int} {D d b : Nat} (hD : 0 < D) (hd : 0 < d) (hN : N.natAbs < 2 ^ b) (hDb : D < 2 ^ b) (hs : sg = 1 ∨ sg = -1) (hm : m.natAbs < 2 ^ 10) (hdb : d < 2 ^ 13) :
    (N * ((stepL D d / D : Nat) : Int) + sg * m * ((stepL D d / d : Nat) : Int)).natAbs < 2 ^ (b + 14) ∧ stepL D d < 2 ^ (b + 14) ∧ stepL D d / D < 2 ^ 13 ∧ stepL D d / d < 2 ^ b := by
  have hc := stepL_le D d
  have h1 : stepL D d / D ≤ d := Nat.div_le_of_le_mul hc
  have h2 : stepL D d / d ≤ D := Nat.div_le_of_le_mul (by rw [Nat.mul_comm]; exact hc)
  generalize stepL D d / D = x at *
  generalize stepL D d / d = y at *
  have e : 2 ^ (b + 14) = 2 ^ b * 2 ^ 14 := Nat.pow_add _ _ _
  have p : 0 < 2 ^ b := Nat.two_pow_pos b
  refine ⟨?_, ?_, by omega, by omega⟩
  · have a1 : (N * (x : Int) + sg * m * (y : Int)).natAbs ≤ N.natAbs * x + m.natAbs * y := by
      refine Nat.le_trans (Int.natAbs_add_le _ _) ?_
      rw [Int.natAbs_mul, Int.natAbs_mul, Int.natAbs_mul, Int.natAbs_natCast, Int.natAbs_natCast]
      rcases hs with rfl | rfl
      · simp
      · simp
    have a2 : N.natAbs * x ≤ 2 ^ b * 2 ^ 13 := Nat.mul_le_mul (Nat.le_of_lt hN) (by omega)
    have a3 : m.natAbs * y ≤ 2 ^ 10 * 2 ^ b := Nat.mul_le_mul (Nat.le_of_lt hm) (by omega)
    rw [e]
    omega
  · have a2 : D * d ≤ 2 ^ b * 2 ^ 13 := Nat.mul_le_mul (Nat.le_of_lt hDb) (by omega)
    rw [e]
    omega
end Ef
namespace Ef
/-! ### how great the shares' numbers are; what arrives at a set -/
def QB (q : Rat) (k : Nat) : Prop := q.num.natAbs < 2 ^ k ∧ q.den < 2 ^ k
theorem bits_up {a b c : Nat} (h : a < 2 ^ b) (l : b ≤ c) : a < 2 ^ c := Nat.lt_of_lt_of_le h (Nat.pow_le_pow_right (by decide) l)
theorem QB.up {q : Rat} {k l : Nat} (h : QB q k) (le : k ≤ l) : QB q l := ⟨bits_up h.1 le, bits_up h.2 le⟩
theorem qb_mk {n : Int} {d k : Nat} (hd : d ≠ 0) (h1 : n.natAbs < 2 ^ k) (h2 : d < 2 ^ k) : QB (mkRat n d) k := by
  refine ⟨?_, ?_⟩
  · rw [Rat.num_mkRat, if_neg hd, Int.natAbs_ediv_of_dvd]
    · exact Nat.lt_of_le_of_lt (Nat.div_le_self _ _) h1
    · exact Int.ofNat_dvd_left.mpr (Nat.gcd_dvd_right _ _)
  · rw [Rat.den_mkRat, if_neg hd]
    exact Nat.lt_of_le_of_lt (Nat.div_le_self _ _) h2
theorem pow_lt2 {a b k l : Nat} (h1 : a < 2 ^ k) (h2 : b < 2 ^ l) : a * b < 2 ^ (k + l) := by
  rw [Nat.pow_add]
  exact Nat.mul_lt_mul'' h1 h2
theorem qb_add {p q : Rat} {k l : Nat} (h : QB p k) (g : QB q l) : QB (p + q) (k + l + 1) := by
  rw [Rat.add_def']
  have a1 := pow_lt2 h.1 g.2
  have a2 := pow_lt2 g.1 h.2
  rw [Nat.add_comm l k] at a2
  have a3 := pow_lt2 h.2 g.2
  have e : 2 ^ (k + l + 1) = 2 ^ (k + l) * 2 := Nat.pow_succ _ _
  refine qb_mk (Nat.ne_of_gt (Nat.mul_pos p.den_pos q.den_pos)) ?_ (bits_up a3 (Nat.le_succ _))
  refine Nat.lt_of_le_of_lt (Int.natAbs_add_le _ _) ?_
  rw [Int.natAbs_mul, Int.natAbs_mul, Int.natAbs_natCast, Int.natAbs_natCast]
  omega
theorem qb_neg {q : Rat} {k : Nat} (h : QB q k) : QB (-q) k := by
  refine ⟨?_, ?_⟩
  · rw [Rat.neg_num, Int.natAbs_neg]
    exact h.1
  · rw [Rat.neg_den]
    exact h.2
theorem qb_sub {p q : Rat} {k l : Nat} (h : QB p k) (g : QB q l) : QB (p - q) (k + l + 1) := by
  rw [Rat.sub_eq_add_neg]
  exact qb_add h (qb_neg g)
theorem qb_nat {m b : Nat} {q : Rat} {k : Nat} (hm : m < 2 ^ b) (h : QB q k) : QB ((m : Rat) * q) (b + k) := by
  rw [Rat.mul_def']
  have a1 := pow_lt2 hm h.1
  refine qb_mk (by rw [Rat.den_natCast, Nat.one_mul]; exact Nat.ne_of_gt q.den_pos) ?_ ?_
  · rw [Rat.num_natCast, Int.natAbs_mul, Int.natAbs_natCast]
    exact a1
  · rw [Rat.den_natCast, Nat.one_mul]
    exact bits_up h.2 (Nat.le_add_left _ _)
theorem qb_inv {m b : Nat} (hm : m < 2 ^ b) (h0 : 0 < m) (hb : 1 ≤ b) : QB (1 / (m : Rat)) b := by
  have e : (1 : Rat) / (m : Rat) = mkRat 1 m := by rw [Rat.mkRat_eq_div]; rfl
  rw [e]
  exact qb_mk (by omega) (Nat.one_lt_two_pow (by omega)) hm
def bK : Nat → Nat
  | 0 => 13
  | k + 1 => bK k + bK k + 1
theorem qb_invR (w : Nat → Nat) : ∀ (S : List Nat) (a : Nat), 0 < a → a + wS w S < 2 ^ 13 → QB (invR w S (a : Rat)) (bK S.length)
  | [], a, h0, h => by
    have e : wS w [] = 0 := rfl
    rw [e] at h
    exact qb_inv (b := 13) (by omega) h0 (by decide)
  | s :: S, a, h0, h => by
    rw [wS_cons] at h
    have h1 := qb_invR w S a h0 (by omega)
    have h2 := qb_invR w S (a + w s) (by omega) (by omega)
    have e : (((a + w s : Nat)) : Rat) = (a : Rat) + (w s : Rat) := by push_cast; rfl
    rw [e] at h2
    exact qb_sub h1 h2
theorem bK_le : ∀ k, k ≤ 5 → bK k ≤ 447 := by decide
theorem cp_wpos {w : Nat → Nat} (hw : ∀ x, 0 < w x) {n : Nat} {S : List Nat} (hS : S.Nodup) (hn : ∀ x ∈ S, x < n) (hk : S.length < n) : 0 < wS w (cp n S) := by
  have e := cp_len hS hn
  exact wS_pos hw _ (fun z => by rw [z] at e; simp at e; omega)
section
variable {w : Nat → Nat} {n : Nat} (hw : ∀ x, 0 < w x) (hW : wS w (List.range' 0 n) < 2 ^ 13) (hn6 : n ≤ 6) {S : List Nat} (hS : S.Nodup) (hn : ∀ x ∈ S, x < n) (hk : S.length < n)
include hw hW hn6 hS hn hk
theorem qb_I : QB (invR w S ((wS w (cp n S) : Nat) : Rat)) 447 := by
  have h1 := cp_w (w := w) hS hn
  exact (qb_invR w S _ (cp_wpos hw hS hn hk) (by omega)).up (bK_le _ (by omega))
theorem qb_pc : QB (pcQ w n S) 460 := by
  have h1 := cp_w (w := w) hS hn
  exact qb_nat (b := 13) (by omega) (qb_I hw hW hn6 hS hn hk)
theorem qb_lv {x : Nat} (hx : w x < 2 ^ 13) : QB (lvQ w n S x) 460 := qb_nat (b := 13) hx (qb_I hw hW hn6 hS hn hk)
end
theorem qb_zero : QB 0 1 := ⟨by decide, by decide⟩
theorem qb_qs {k : Nat} : ∀ l : List Rat, (∀ x ∈ l, QB x k) → QB (qs l) ((k + 1) * l.length + 1)
  | [], _ => qb_zero
  | x :: l, h => by
    have h1 := h x List.mem_cons_self
    have h2 := qb_qs l fun y hy => h y (List.mem_cons_of_mem _ hy)
    refine (qb_add h1 h2).up ?_
    rw [List.length_cons, Nat.mul_succ]
    omega
theorem qs_nonneg : ∀ l : List Rat, (∀ x ∈ l, 0 < x) → 0 ≤ qs l
  | [], _ => Rat.le_refl
  | x :: l, h => by
    have h1 := h x List.mem_cons_self
    have h2 := qs_nonneg l fun y hy => h y (List.mem_cons_of_mem _ hy)
    show 0 ≤ x + qs l
    grind
/-! ### -/
def thr (e : List Nat × Nat) : List Nat := srt (e.1 ++ [e.2])
def sumS (w : Nat → Nat) (n : Nat) (E : List (List Nat × Nat)) (S : List Nat) : Rat := qs ((E.filter fun e => decide (thr e = S)).map fun e => lvQ w n e.1 e.2)
theorem sumS_nil (w : Nat → Nat) (n : Nat) (S : List Nat) : sumS w n [] S = 0 := rfl
theorem sumS_snoc (w : Nat → Nat) (n : Nat) (E : List (List Nat × Nat)) (e : List Nat × Nat) (S : List Nat) : sumS w n (E ++ [e]) S = if S = thr e then sumS w n E S + lvQ w n e.1 e.2 else sumS w n E S := by
  unfold sumS
  rw [List.filter_append]
  by_cases c : S = thr e
  · rw [if_pos c, List.filter_cons_of_pos (by rw [c]; exact decide_eq_true rfl), List.filter_nil, List.map_append, qs_app]
    simp only [List.map_cons, List.map_nil, qs]
    grind
  · rw [if_neg c, List.filter_cons_of_neg (by simpa using fun z => c z.symm), List.filter_nil, List.append_nil]
theorem sumS_zero {w : Nat → Nat} {n : Nat} {E : List (List Nat × Nat)} {S : List Nat} (h : ∀ e ∈ E, thr e ≠ S) : sumS w n E S = 0 := by
  unfold sumS
  rw [List.filter_eq_nil_iff.mpr fun e he => by simpa using h e he]
  rfl
theorem due_in {n k : Nat} {e : List Nat × Nat} (h : e ∈ dueE n k) : Asc e.1 ∧ e.1.length = k ∧ (∀ x ∈ e.1, x < n) ∧ e.2 < n ∧ e.2 ∉ e.1 := by
  unfold dueE at h
  obtain ⟨c, hc, h⟩ := List.mem_flatMap.mp h
  obtain ⟨x, hx, rfl⟩ := List.mem_map.mp h
  obtain ⟨g1, g2⟩ := combs_good _ _ c hc
  obtain ⟨h1, h2⟩ := List.mem_filter.mp hx
  exact ⟨(asc_range' n 0).sublist g2, g1, fun z hz => mem_range0.mp (g2.subset hz), mem_range0.mp h1, by simpa using h2⟩
theorem due_of {n k : Nat} {c : List Nat} {x : Nat} (h1 : Asc c) (h2 : c.length = k) (h3 : ∀ y ∈ c, y < n) (h4 : x < n) (h5 : x ∉ c) : (c, x) ∈ dueE n k := by
  unfold dueE
  have hc := combs_mem (List.range' 0 n) c (ascSub h1 (asc_range' n 0) fun z hz => mem_range0.mpr (h3 z hz))
  rw [h2] at hc
  exact List.mem_flatMap.mpr ⟨c, hc, List.mem_map.mpr ⟨x, List.mem_filter.mpr ⟨mem_range0.mpr h4, by simpa using h5⟩, rfl⟩⟩
theorem thr_perm (e : List Nat × Nat) : (thr e).Perm (e.2 :: e.1) := (srt_perm _).trans (List.perm_append_comm.trans (List.Perm.refl _))
theorem thr_good {n k : Nat} {e : List Nat × Nat} (h : e ∈ dueE n k) : Asc (thr e) ∧ (thr e).length = k + 1 ∧ ∀ x ∈ thr e, x < n := by
  obtain ⟨h1, h2, h3, h4, h5⟩ := due_in h
  refine ⟨srt_asc ?_, ?_, fun x hx => ?_⟩
  · exact (List.perm_append_comm.trans (List.Perm.refl (e.2 :: e.1))).nodup_iff.mpr (List.nodup_cons.mpr ⟨h5, asc_nodup h1⟩)
  · rw [(thr_perm e).length_eq, List.length_cons, h2]
  · rcases List.mem_cons.mp ((thr_perm e).mem_iff.mp hx) with e1 | e1
    · rw [e1]; exact h4
    · exact h3 x e1
theorem asc_eq {a b : List Nat} (h1 : Asc a) (h2 : Asc b) (p : a.Perm b) : a = b := List.Perm.eq_of_pairwise (le := fun a b : Nat => a ≤ b) (fun a b _ _ h1 h2 => Nat.le_antisymm h1 h2) (h1.imp Nat.le_of_lt) (h2.imp Nat.le_of_lt) p
theorem pick_due {n k : Nat} {S : List Nat} (hS : Asc S) (hl : S.length = k + 1) (hn : ∀ x ∈ S, x < n) (p : Nat × List Nat) (hp : p ∈ picks S) : (p.2, p.1) ∈ dueE n k ∧ thr (p.2, p.1) = S := by
  have pm := picks_perm S p hp
  have sb := picks_sub S p hp
  have nd := List.nodup_cons.mp (pm.nodup_iff.mpr (asc_nodup hS))
  have hl2 := pm.length_eq
  rw [List.length_cons] at hl2
  refine ⟨due_of (hS.sublist sb) (by omega) (fun y hy => hn y (sb.subset hy)) (hn _ (pm.mem_iff.mp List.mem_cons_self)) nd.1, ?_⟩
  exact (asc_eq hS (srt_asc ((List.perm_append_comm.trans (List.Perm.refl (p.1 :: p.2))).nodup_iff.mpr (List.nodup_cons.mpr nd))) ((thr_perm (p.2, p.1)).trans pm).symm).symm
theorem picks_nodup {S : List Nat} (h : S.Nodup) : (picks S).Nodup := by
  refine List.Pairwise.imp (R := fun a b : Nat × List Nat => a.1 ≠ b.1) (fun {a b} hab e => hab (congrArg Prod.fst e)) ?_
  have := h
  rw [← picks_fst S] at this
  exact List.pairwise_map.mp this
theorem arrive_perm {n k : Nat} {S : List Nat} (hS : Asc S) (hl : S.length = k + 1) (hn : ∀ x ∈ S, x < n) : ((dueE n k).filter fun e => decide (thr e = S)).Perm ((picks S).map fun p => (p.2, p.1)) := by
  refine (List.perm_ext_iff_of_nodup ((dueE_nodup n k).filter _) (List.pairwise_map.mpr ((picks_nodup (asc_nodup hS)).imp fun {a b} hab e => hab (Prod.ext (congrArg Prod.snd e) (congrArg Prod.fst e))))).mpr fun e => ?_
  rw [List.mem_filter]
  constructor
  · rintro ⟨h1, h2⟩
    have h2 := of_decide_eq_true h2
    obtain ⟨g1, g2, g3, g4, g5⟩ := due_in h1
    have pm := thr_perm e
    rw [h2] at pm
    obtain ⟨T, hT⟩ := picks_mem (S := S) e.2 (pm.mem_iff.mpr List.mem_cons_self)
    have pT := picks_perm S _ hT
    have eT : T = e.1 := asc_eq (hS.sublist (picks_sub S _ hT)) g1 (List.Perm.cons_inv (pT.trans pm))
    exact List.mem_map.mpr ⟨(e.2, T), hT, by rw [eT]⟩
  · intro h
    obtain ⟨p, hp, rfl⟩ := List.mem_map.mp h
    obtain ⟨h1, h2⟩ := pick_due hS hl hn p hp
    exact ⟨h1, decide_eq_true h2⟩
theorem sumS_due {w : Nat → Nat} {n k : Nat} {S : List Nat} (hw : ∀ x, 0 < w x) (hS : Asc S) (hl : S.length = k + 1) (hn : ∀ x ∈ S, x < n) (hk : k + 1 < n) : sumS w n (dueE n k) S = pcQ w n S := by
  rw [← chance_step (asc_nodup hS) hn (fun z => by rw [z] at hl; cases hl) (cp_wpos hw (asc_nodup hS) hn (by omega))]
  unfold sumS
  rw [qs_perm ((arrive_perm hS hl hn).map _), List.map_map]
  rfl
/-- the sums of a part of the edges -/
theorem sumS_part {w : Nat → Nat} {n k : Nat} {E : List (List Nat × Nat)} (hw : ∀ x, 0 < w x) (hb : ∀ x, w x < 2 ^ 13) (hW : wS w (List.range' 0 n) < 2 ^ 13) (hn6 : n ≤ 6) (hk : k < n) (hE : E.Sublist (dueE n k)) {e : List Nat × Nat} (he : e ∈ dueE n k) : 0 ≤ sumS w n E (thr e) ∧ QB (sumS w n E (thr e)) 3000 := by
  have h : ∀ q ∈ (E.filter fun e' => decide (thr e' = thr e)).map (fun e => lvQ w n e.1 e.2), ∃ e' ∈ dueE n k, q = lvQ w n e'.1 e'.2 := fun q hq => by
    obtain ⟨e', he', rfl⟩ := List.mem_map.mp hq
    exact ⟨e', hE.subset (List.mem_filter.mp he').1, rfl⟩
  have hlen : (E.filter fun e' => decide (thr e' = thr e)).length ≤ 6 := by
    obtain ⟨g1, g2, g3⟩ := thr_good he
    have a1 := (hE.filter fun e' => decide (thr e' = thr e)).length_le
    have a2 := (arrive_perm g1 g2 g3).length_eq
    rw [List.length_map, picks_len] at a2
    omega
  constructor
  · refine qs_nonneg _ fun q hq => ?_
    obtain ⟨e', he', rfl⟩ := h q hq
    obtain ⟨g1, g2, g3, g4, g5⟩ := due_in he'
    exact lv_pos hw (asc_nodup g1) g3 (by omega)
  · refine (qb_qs (k := 460) _ fun q hq => ?_).up ?_
    · obtain ⟨e', he', rfl⟩ := h q hq
      obtain ⟨g1, g2, g3, g4, g5⟩ := due_in he'
      exact qb_lv hw hW hn6 (asc_nodup g1) g3 (by omega) (hb _)
    · rw [List.length_map]
      omega
theorem thr_all {n k : Nat} {S : List Nat} : (∃ e ∈ dueE n k, thr e = S) ↔ S ∈ combs (List.range' 0 n) (k + 1) := by
  constructor
  · rintro ⟨e, he, rfl⟩
    obtain ⟨g1, g2, g3⟩ := thr_good he
    have := combs_mem (List.range' 0 n) _ (ascSub g1 (asc_range' n 0) fun z hz => mem_range0.mpr (g3 z hz))
    rw [g2] at this
    exact this
  · intro h
    obtain ⟨g1, g2⟩ := combs_good _ _ S h
    have hS := (asc_range' n 0).sublist g2
    obtain ⟨x, hx⟩ : ∃ x, x ∈ S := by
      cases S with
      | nil => cases g1
      | cons x r => exact ⟨x, List.mem_cons_self⟩
    obtain ⟨T, hT⟩ := picks_mem x hx
    obtain ⟨h1, h2⟩ := pick_due hS g1 (fun z hz => mem_range0.mp (g2.subset hz)) _ hT
    exact ⟨_, h1, h2⟩
end Ef
namespace Ef
/-! ### the least number of which all shares are whole numbers -/
def IntQ (q : Rat) : Prop := ∃ k : Int, q = (k : Rat)
theorem IntQ.add {p q : Rat} (h : IntQ p) (g : IntQ q) : IntQ (p + q) := by
  obtain ⟨a, rfl⟩ := h
  obtain ⟨b, rfl⟩ := g
  exact ⟨a + b, by push_cast; rfl⟩
theorem IntQ.sub {p q : Rat} (h : IntQ p) (g : IntQ q) : IntQ (p - q) := by
  obtain ⟨a, rfl⟩ := h
  obtain ⟨b, rfl⟩ := g
  exact ⟨a - b, by push_cast; rfl⟩
theorem IntQ.mul {p q : Rat} (h : IntQ p) (g : IntQ q) : IntQ (p * q) := by
  obtain ⟨a, rfl⟩ := h
  obtain ⟨b, rfl⟩ := g
  exact ⟨a * b, by push_cast; rfl⟩
theorem IntQ.nat (n : Nat) : IntQ (n : Rat) := ⟨(n : Int), rfl⟩
theorem den_dvd_iff (q : Rat) (L : Nat) : q.den ∣ L ↔ IntQ (q * (L : Rat)) := by
  have hq := q_is q
  have d0 : ((q.den : Nat) : Rat) ≠ 0 := by exact_mod_cast (Nat.ne_of_gt q.den_pos)
  constructor
  · rintro ⟨k, rfl⟩
    refine ⟨q.num * (k : Int), ?_⟩
    push_cast
    generalize ((q.den : Nat) : Rat) = d at *
    generalize (q.num : Rat) = m at *
    rw [hq]
    grind
  · rintro ⟨k, hk⟩
    have h1 : (q.num : Rat) * (L : Rat) = (k : Rat) * ((q.den : Nat) : Rat) := by
      rw [← hk]
      generalize ((q.den : Nat) : Rat) = d at *
      generalize (q.num : Rat) = m at *
      rw [hq]
      grind
    have h2 : q.num * (L : Int) = k * (q.den : Int) := by exact_mod_cast h1
    have h3 : q.den ∣ q.num.natAbs * L := by
      refine ⟨k.natAbs, ?_⟩
      have := congrArg Int.natAbs h2
      rw [Int.natAbs_mul, Int.natAbs_mul, Int.natAbs_natCast, Int.natAbs_natCast] at this
      rw [this, Nat.mul_comm]
    exact Nat.Coprime.dvd_of_dvd_mul_left q.reduced.symm h3
def lcmL (l : List Nat) : Nat := l.foldl stepL 1
theorem foldl_stepL_dvd : ∀ (l : List Nat) (a c : Nat), l.foldl stepL a ∣ c ↔ a ∣ c ∧ ∀ d ∈ l, d ∣ c
  | [], a, c => by simp
  | x :: l, a, c => by
    rw [List.foldl_cons, foldl_stepL_dvd l, stepL_dvd]
    constructor
    · rintro ⟨⟨h1, h2⟩, h3⟩
      refine ⟨h1, fun d hd => ?_⟩
      rcases List.mem_cons.mp hd with rfl | hd
      · exact h2
      · exact h3 d hd
    · rintro ⟨h1, h2⟩
      exact ⟨⟨h1, h2 x List.mem_cons_self⟩, fun d hd => h2 d (List.mem_cons_of_mem _ hd)⟩
theorem lcmL_dvd (l : List Nat) (c : Nat) : lcmL l ∣ c ↔ ∀ d ∈ l, d ∣ c := by
  unfold lcmL
  rw [foldl_stepL_dvd]
  exact ⟨fun h => h.2, fun h => ⟨Nat.one_dvd _, h⟩⟩
theorem foldl_stepL_pos : ∀ (l : List Nat) (a : Nat), 0 < a → (∀ d ∈ l, 0 < d) → 0 < l.foldl stepL a
  | [], a, h, _ => h
  | x :: l, a, h, g => foldl_stepL_pos l _ (stepL_pos h (g x List.mem_cons_self)) fun d hd => g d (List.mem_cons_of_mem _ hd)
theorem lcmL_pos {l : List Nat} (h : ∀ d ∈ l, 0 < d) : 0 < lcmL l := foldl_stepL_pos l 1 Nat.one_pos h
theorem lcmL_snoc (l : List Nat) (x : Nat) : lcmL (l ++ [x]) = stepL (lcmL l) x := by
  unfold lcmL
  rw [List.foldl_append]
  rfl
/-- the edges of the first levels -/
def allD (n k : Nat) : List (List Nat × Nat) := (List.range k).flatMap (dueE n)
def lvE (w : Nat → Nat) (n : Nat) (e : List Nat × Nat) : Rat := lvQ w n e.1 e.2
theorem allD_succ (n k : Nat) : allD n (k + 1) = allD n k ++ dueE n k := by
  unfold allD
  rw [List.range_succ, List.flatMap_append]
  congr 1
  exact List.append_nil _
theorem allD_mem {n m : Nat} {e : List Nat × Nat} : e ∈ allD n m ↔ ∃ k, k < m ∧ e ∈ dueE n k := by
  unfold allD
  rw [List.mem_flatMap]
  exact ⟨fun ⟨k, h1, h2⟩ => ⟨k, List.mem_range.mp h1, h2⟩, fun ⟨k, h1, h2⟩ => ⟨k, List.mem_range.mpr h1, h2⟩⟩
theorem due_len {n k : Nat} (hn : n ≤ 6) : (dueE n k).length ≤ 384 := by
  have h1 := (List.perm_ext_iff_of_nodup (dueE_nodup n k) (allE_nodup n k)).mpr fun e => dueE_mem
  rw [h1.length_eq, allE_len]
  have h2 : C (n - 1) k ≤ 2 ^ (n - 1) := C_le _ _
  have h3 : 2 ^ (n - 1) ≤ 2 ^ 5 := Nat.pow_le_pow_right (by decide) (by omega)
  have h4 : n * C (n - 1) k ≤ 6 * 32 := Nat.mul_le_mul hn (by omega)
  omega
theorem alld_len {n : Nat} (hn : n ≤ 6) : ∀ {k : Nat}, (allD n k).length ≤ 384 * k
  | 0 => Nat.le_refl _
  | k + 1 => by
    rw [allD_succ, List.length_append]
    have h1 := alld_len hn (k := k)
    have h2 := due_len (k := k) hn
    omega
def leastQ (w : Nat → Nat) (n : Nat) : Nat := lcmL ((allD n n).map fun e => (lvE w n e).den)
theorem leastQ_pos (w : Nat → Nat) (n : Nat) : 0 < leastQ w n := lcmL_pos fun d hd => by
  obtain ⟨e, _, rfl⟩ := List.mem_map.mp hd
  exact (lvE w n e).den_pos
/-- a number of lists is possible exactly if all level numbers are whole -/
theorem leastQ_dvd (w : Nat → Nat) (n c : Nat) : leastQ w n ∣ c ↔ ∀ e ∈ allD n n, IntQ (lvE w n e * (c : Rat)) := by
  unfold leastQ
  rw [lcmL_dvd]
  constructor
  · intro h e he
    exact (den_dvd_iff _ _).mp (h _ (List.mem_map.mpr ⟨e, he, rfl⟩))
  · intro h d hd
    obtain ⟨e, he, rfl⟩ := List.mem_map.mp hd
    exact (den_dvd_iff _ _).mpr (h e he)
/-! a multiple of all of them that is not too great -/
def subl : List Nat → List (List Nat)
  | [] => [[]]
  | x :: l => subl l ++ (subl l).map (x :: ·)
theorem subl_len : ∀ l : List Nat, (subl l).length = 2 ^ l.length
  | [] => rfl
  | x :: l => by
    show (subl l ++ (subl l).map (x :: ·)).length = 2 ^ (l.length + 1)
    rw [List.length_append, List.length_map, subl_len l, Nat.pow_succ]
    omega
theorem subl_mem : ∀ {l c : List Nat}, c.Sublist l → c ∈ subl l
  | [], c, h => by
    rw [List.sublist_nil.mp h]
    exact List.mem_cons_self
  | x :: l, c, h => by
    cases h with
    | cons _ h => exact List.mem_append_left _ (subl_mem h)
    | cons_cons _ h => exact List.mem_append_right _ (List.mem_map.mpr ⟨_, subl_mem h, rfl⟩)
theorem subl_good : ∀ {l c : List Nat}, c ∈ subl l → c.Sublist l
  | [], c, h => by
    rw [List.mem_singleton.mp h]
    exact List.nil_sublist _
  | x :: l, c, h => by
    rcases List.mem_append.mp h with h | h
    · exact (subl_good h).cons x
    · obtain ⟨d, hd, rfl⟩ := List.mem_map.mp h
      exact (subl_good hd).cons_cons x
def prodL : List Nat → Nat
  | [] => 1
  | x :: l => x * prodL l
theorem prodL_dvd : ∀ {l : List Nat} {x : Nat}, x ∈ l → x ∣ prodL l
  | y :: l, x, h => by
    rcases List.mem_cons.mp h with rfl | h
    · exact Nat.dvd_mul_right _ _
    · exact Nat.dvd_trans (prodL_dvd h) (Nat.dvd_mul_left _ _)
theorem prodL_lt {b : Nat} : ∀ l : List Nat, (∀ x ∈ l, x < 2 ^ b) → prodL l < 2 ^ (b * l.length + 1)
  | [], _ => by show 1 < 2 ^ (0 + 1); decide
  | x :: l, h => by
    have h1 := h x List.mem_cons_self
    have h2 := prodL_lt l fun y hy => h y (List.mem_cons_of_mem _ hy)
    show x * prodL l < _
    have := pow_lt2 h1 h2
    rw [List.length_cons, Nat.mul_succ, show b * l.length + b + 1 = b + (b * l.length + 1) by omega]
    exact this
def bigL (w : Nat → Nat) (n : Nat) : Nat := prodL ((subl (List.range' 0 n)).map fun T => max 1 (wS w T))
theorem invR_den {w : Nat → Nat} {L : Nat} : ∀ (S : List Nat) (a : Nat), 0 < a → (∀ T, T.Sublist S → (a + wS w T) ∣ L) → IntQ (invR w S (a : Rat) * (L : Rat))
  | [], a, h0, h => by
    obtain ⟨k, hk⟩ := h [] (List.Sublist.refl _)
    have e : wS w [] = 0 := rfl
    rw [e, Nat.add_zero] at hk
    refine ⟨(k : Int), ?_⟩
    have a0 : ((a : Nat) : Rat) ≠ 0 := by exact_mod_cast (Nat.ne_of_gt h0)
    have e2 : ((L : Nat) : Rat) = (a : Rat) * (k : Rat) := by rw [hk]; push_cast; rfl
    rw [e2]
    show 1 / (a : Rat) * ((a : Rat) * (k : Rat)) = ((k : Int) : Rat)
    have e3 : (((k : Nat) : Int) : Rat) = ((k : Nat) : Rat) := rfl
    rw [e3]
    grind
  | s :: S, a, h0, h => by
    have h1 := invR_den (w := w) (L := L) S a h0 fun T hT => h T (hT.cons s)
    have h2 := invR_den (w := w) (L := L) S (a + w s) (by omega) fun T hT => by
      have := h (s :: T) (hT.cons_cons s)
      rw [wS_cons] at this
      rw [show a + w s + wS w T = a + (w s + wS w T) by omega]
      exact this
    have e : (((a + w s : Nat)) : Rat) = (a : Rat) + (w s : Rat) := by push_cast; rfl
    rw [e] at h2
    show IntQ ((invR w S (a : Rat) - invR w S ((a : Rat) + (w s : Rat))) * (L : Rat))
    have := h1.sub h2
    rw [show (invR w S (a : Rat) - invR w S ((a : Rat) + (w s : Rat))) * (L : Rat) = invR w S (a : Rat) * (L : Rat) - invR w S ((a : Rat) + (w s : Rat)) * (L : Rat) by grind]
    exact this
theorem bigL_dvd {w : Nat → Nat} (hw : ∀ x, 0 < w x) {n : Nat} {S T : List Nat} (hS : S.Nodup) (hn : ∀ x ∈ S, x < n) (hk : S.length < n) (hT : T.Sublist S) : (wS w (cp n S) + wS w T) ∣ bigL w n := by
  have hp := cp_wpos hw hS hn hk
  have e : wS w ((List.range' 0 n).filter fun x => decide (x ∈ cp n S ++ T)) = wS w (cp n S) + wS w T := by
    rw [← wS_app]
    refine wS_perm ((List.perm_ext_iff_of_nodup ((asc_nodup (asc_range' n 0)).filter _) ?_).mpr fun x => ?_)
    · refine List.nodup_append.mpr ⟨(asc_nodup (asc_range' n 0)).filter _, hT.nodup hS, fun a ha b hb e => ?_⟩
      have := (List.mem_filter.mp ha).2
      rw [e] at this
      simp at this
      exact this (hT.subset hb)
    · rw [List.mem_filter]
      constructor
      · exact fun h => of_decide_eq_true h.2
      · intro h
        refine ⟨?_, decide_eq_true h⟩
        rcases List.mem_append.mp h with h | h
        · exact (List.mem_filter.mp h).1
        · exact mem_range0.mpr (hn x (hT.subset h))
  rw [← e]
  refine prodL_dvd (List.mem_map.mpr ⟨(List.range' 0 n).filter fun x => decide (x ∈ cp n S ++ T), subl_mem List.filter_sublist, ?_⟩)
  omega
theorem wS_sub {w : Nat → Nat} {a b : List Nat} (h : a.Sublist b) : wS w a ≤ wS w b := by
  induction h with
  | slnil => exact Nat.le_refl _
  | cons x _ ih => rw [wS_cons]; omega
  | cons_cons x _ ih => rw [wS_cons, wS_cons]; omega
theorem leastQ_bound {w : Nat → Nat} (hw : ∀ x, 0 < w x) {n : Nat} (hn6 : n ≤ 6) (hW : wS w (List.range' 0 n) < 2 ^ 13) : leastQ w n < 2 ^ 833 := by
  have h1 : leastQ w n ∣ bigL w n := (leastQ_dvd w n _).mpr fun e he => by
    obtain ⟨k, hk, he⟩ := allD_mem.mp he
    obtain ⟨g1, g2, g3, g4, g5⟩ := due_in he
    unfold lvE lvQ
    have := invR_den (w := w) (L := bigL w n) e.1 (wS w (cp n e.1)) (cp_wpos hw (asc_nodup g1) g3 (by omega)) fun T hT => bigL_dvd hw (asc_nodup g1) g3 (by omega) hT
    have h2 := (IntQ.nat (w e.2)).mul this
    rw [show (w e.2 : Rat) * invR w e.1 ((wS w (cp n e.1) : Nat) : Rat) * ((bigL w n : Nat) : Rat) = (w e.2 : Rat) * (invR w e.1 ((wS w (cp n e.1) : Nat) : Rat) * ((bigL w n : Nat) : Rat)) by grind]
    exact h2
  have h2 : bigL w n < 2 ^ (13 * (subl (List.range' 0 n)).length + 1) := by
    unfold bigL
    have := prodL_lt (b := 13) ((subl (List.range' 0 n)).map fun T => max 1 (wS w T)) fun x hx => ?_
    · rw [List.length_map] at this
      exact this
    · obtain ⟨T, hT, rfl⟩ := List.mem_map.mp hx
      have hle : wS w T ≤ wS w (List.range' 0 n) := by
        exact wS_sub (subl_good hT)
      omega
  have h3 : 0 < bigL w n := by
    unfold bigL
    have : ∀ l : List Nat, (∀ x ∈ l, 0 < x) → 0 < prodL l := by
      intro l
      induction l with
      | nil => intro _; exact Nat.one_pos
      | cons x l ih => intro h; exact Nat.mul_pos (h x List.mem_cons_self) (ih fun y hy => h y (List.mem_cons_of_mem _ hy))
    refine this _ fun x hx => ?_
    obtain ⟨T, _, rfl⟩ := List.mem_map.mp hx
    omega
  refine Nat.lt_of_le_of_lt (Nat.le_of_dvd h3 h1) (Nat.lt_of_lt_of_le h2 (Nat.pow_le_pow_right (by decide) ?_))
  rw [subl_len, List.length_range']
  have : 2 ^ n ≤ 2 ^ 6 := Nat.pow_le_pow_right (by decide) hn6
  omega
/-! equal weights -/
theorem wS_const {w : Nat → Nat} {c : Nat} : ∀ l : List Nat, (∀ x ∈ l, w x = c) → wS w l = c * l.length
  | [], _ => rfl
  | x :: l, h => by
    rw [wS_cons, h x List.mem_cons_self, wS_const l fun y hy => h y (List.mem_cons_of_mem _ hy), List.length_cons, Nat.mul_succ]
    omega
theorem qs_const {c : Rat} : ∀ l : List Rat, (∀ x ∈ l, x = c) → qs l = (l.length : Rat) * c
  | [], _ => by
    show (0 : Rat) = 0 * c
    grind
  | x :: l, h => by
    show x + qs l = _
    rw [h x List.mem_cons_self, qs_const l fun y hy => h y (List.mem_cons_of_mem _ hy), List.length_cons]
    push_cast
    grind
theorem eq_pc {w : Nat → Nat} {n c : Nat} (hc : 0 < c) (hw : ∀ x, x < n → w x = c) : ∀ (k : Nat) (S : List Nat), S.length = k → S.Nodup → (∀ x ∈ S, x < n) → k < n → pcQ w n S = 1 / (C n k : Rat)
  | 0, S, hl, hS, hn, hk => by
    rw [List.length_eq_zero_iff.mp hl]
    have e := cp_len (n := n) (S := []) List.nodup_nil (fun x hx => absurd hx List.not_mem_nil)
    have e2 := wS_const (w := w) (c := c) (cp n []) fun x hx => hw x (mem_range0.mp (List.mem_filter.mp hx).1)
    rw [chance_nil (by rw [e2]; exact Nat.mul_pos hc (by simp at e; omega)), C_zero, show ((1 : Nat) : Rat) = 1 from rfl]
    grind
  | k + 1, S, hl, hS, hn, hk => by
    have e := cp_len hS hn
    have e2 := wS_const (w := w) (c := c) (cp n S) fun x hx => hw x (mem_range0.mp (List.mem_filter.mp hx).1)
    have hp : 0 < wS w (cp n S) := by rw [e2]; exact Nat.mul_pos hc (by omega)
    rw [← chance_step hS hn (fun z => by rw [z] at hl; cases hl) hp]
    have all : ∀ q ∈ (picks S).map (fun p => lvQ w n p.2 p.1), q = 1 / ((C n k : Rat) * ((n - k : Nat) : Rat)) := fun q hq => by
      obtain ⟨p, hpk, rfl⟩ := List.mem_map.mp hq
      have pm := picks_perm S p hpk
      have hnd := List.nodup_cons.mp (pm.nodup_iff.mpr hS)
      have hl2 := pm.length_eq
      rw [List.length_cons] at hl2
      have hn2 : ∀ x ∈ p.2, x < n := fun x hx => hn x (pm.mem_iff.mp (List.mem_cons_of_mem _ hx))
      have e4 := cp_len hnd.2 hn2
      have e3 := wS_const (w := w) (c := c) (cp n p.2) fun x hx => hw x (mem_range0.mp (List.mem_filter.mp hx).1)
      rw [lv_pc (by rw [e3]; exact Nat.mul_pos hc (by omega)), eq_pc hc hw k p.2 (by omega) hnd.2 hn2 (by omega), e3, hw p.1 (hn _ (pm.mem_iff.mp List.mem_cons_self)), show (cp n p.2).length = n - k by omega]
      have z1 : ((c : Nat) : Rat) ≠ 0 := by exact_mod_cast (Nat.ne_of_gt hc)
      have z2 : ((n - k : Nat) : Rat) ≠ 0 := by exact_mod_cast (show n - k ≠ 0 by omega)
      have z3 : ((C n k : Nat) : Rat) ≠ 0 := by exact_mod_cast (Nat.ne_of_gt (C_pos n k (by omega)))
      push_cast
      generalize ((n - k : Nat) : Rat) = m at *
      grind
    rw [qs_const _ all, List.length_map, picks_len, hl]
    have st := C_step n k (by omega)
    have st2 : ((C n (k + 1) : Nat) : Rat) * (((k + 1 : Nat)) : Rat) = ((C n k : Nat) : Rat) * ((n - k : Nat) : Rat) := by exact_mod_cast st
    have z2 : ((n - k : Nat) : Rat) ≠ 0 := by exact_mod_cast (show n - k ≠ 0 by omega)
    have z3 : ((C n k : Nat) : Rat) ≠ 0 := by exact_mod_cast (Nat.ne_of_gt (C_pos n k (by omega)))
    have z4 : ((C n (k + 1) : Nat) : Rat) ≠ 0 := by exact_mod_cast (Nat.ne_of_gt (C_pos n (k + 1) (by omega)))
    rw [← st2]
    have z5 : (((k + 1 : Nat)) : Rat) ≠ 0 := by exact_mod_cast (show k + 1 ≠ 0 by omega)
    generalize (((k + 1 : Nat)) : Rat) = m at *
    grind
theorem C_edge {n k : Nat} (h : k < n) : C n k * (n - k) = n * C (n - 1) k := by
  obtain ⟨m, rfl⟩ : ∃ m, n = m + 1 := ⟨n - 1, by omega⟩
  have h1 := C_absorb m k
  have h2 := C_step (m + 1) k (by omega)
  rw [show m + 1 - 1 = m from rfl]
  omega
theorem eq_den {w : Nat → Nat} {n c k : Nat} {e : List Nat × Nat} (hc : 0 < c) (hw : ∀ x, x < n → w x = c) (hk : k < n) (he : e ∈ dueE n k) : (lvE w n e).den = n * C (n - 1) k := by
  obtain ⟨g1, g2, g3, g4, g5⟩ := due_in he
  have e4 := cp_len (asc_nodup g1) g3
  have e3 := wS_const (w := w) (c := c) (cp n e.1) fun x hx => hw x (mem_range0.mp (List.mem_filter.mp hx).1)
  have e5 : lvE w n e = 1 / ((C n k * (n - k) : Nat) : Rat) := by
    unfold lvE
    rw [lv_pc (by rw [e3]; exact Nat.mul_pos hc (by omega)), eq_pc hc hw k e.1 g2 (asc_nodup g1) g3 hk, e3, hw e.2 g4, show (cp n e.1).length = n - k by omega]
    have z1 : ((c : Nat) : Rat) ≠ 0 := by exact_mod_cast (Nat.ne_of_gt hc)
    have z2 : ((n - k : Nat) : Rat) ≠ 0 := by exact_mod_cast (show n - k ≠ 0 by omega)
    have z3 : ((C n k : Nat) : Rat) ≠ 0 := by exact_mod_cast (Nat.ne_of_gt (C_pos n k (by omega)))
    push_cast
    generalize ((n - k : Nat) : Rat) = m at *
    grind
  rw [e5, C_edge hk]
  have hpos : 0 < n * C (n - 1) k := edge_pos hk
  have e6 : (1 : Rat) / ((n * C (n - 1) k : Nat) : Rat) = mkRat 1 (n * C (n - 1) k) := by rw [Rat.mkRat_eq_div]; rfl
  rw [e6, Rat.den_mkRat, if_neg (by omega)]
  simp
theorem leastL_all (n c : Nat) : ∀ d, leastL n d ∣ c ↔ ∀ i, i < d → n * C (n - 1) i ∣ c
  | 0 => ⟨fun _ i h => absurd h (Nat.not_lt_zero _), fun _ => Nat.one_dvd _⟩
  | d + 1 => by
    show stepL (leastL n d) (n * C (n - 1) d) ∣ c ↔ _
    rw [stepL_dvd, leastL_all n c d]
    constructor
    · rintro ⟨h1, h2⟩ i hi
      by_cases e : i = d
      · rw [e]; exact h2
      · exact h1 i (by omega)
    · exact fun h => ⟨fun i hi => h i (by omega), h d (by omega)⟩
theorem due_some {n k : Nat} (h : k < n) : ∃ e, e ∈ dueE n k := by
  have h1 : (allE n k).length = n * C (n - 1) k := allE_len n k
  have h2 := edge_pos (n := n) (d := k) h
  obtain ⟨e, he⟩ := List.exists_mem_of_length_pos (l := allE n k) (by omega)
  exact ⟨e, dueE_mem.mpr he⟩
theorem eq_least {w : Nat → Nat} {n c : Nat} (hc : 0 < c) (hw : ∀ x, x < n → w x = c) : leastQ w n = leastL n n := by
  have key : ∀ m, leastQ w n ∣ m ↔ leastL n n ∣ m := fun m => by
    unfold leastQ
    rw [lcmL_dvd, leastL_all]
    constructor
    · intro h i hi
      obtain ⟨e, he⟩ := due_some hi
      rw [← eq_den hc hw hi he]
      exact h _ (List.mem_map.mpr ⟨e, allD_mem.mpr ⟨i, hi, he⟩, rfl⟩)
    · intro h d hd
      obtain ⟨e, he, rfl⟩ := List.mem_map.mp hd
      obtain ⟨k, hk, he⟩ := allD_mem.mp he
      rw [eq_den hc hw hk he]
      exact h k hk
  exact Nat.dvd_antisymm ((key _).mpr (Nat.dvd_refl _)) ((key _).mp (Nat.dvd_refl _))
/-! two weights -/
theorem two_den {w : Nat → Nat} (h0 : 0 < w 0) (h1 : 0 < w 1) {e : List Nat × Nat} (he : e ∈ allD 2 2) : (lvE w 2 e).den = (w 0 + w 1) / Nat.gcd (w 0) (w 1) := by
  have hW : ((w 0 + w 1 : Nat) : Rat) ≠ 0 := by exact_mod_cast (show w 0 + w 1 ≠ 0 by omega)
  have key : ∀ x : Nat, ∀ y : Nat, x + y = w 0 + w 1 → Nat.gcd x y = Nat.gcd (w 0) (w 1) → 0 < x → ((x : Rat) / ((w 0 + w 1 : Nat) : Rat)).den = (w 0 + w 1) / Nat.gcd (w 0) (w 1) := fun x y hxy hg hx => by
    have e6 : (x : Rat) / ((w 0 + w 1 : Nat) : Rat) = mkRat (x : Int) (w 0 + w 1) := by rw [Rat.mkRat_eq_div]; rfl
    rw [e6, Rat.den_mkRat, if_neg (by omega), Int.natAbs_natCast, ← hxy, ← hg]
    congr 1
    rw [Nat.gcd_comm]
    simp
  have k0 := key (w 0) (w 1) rfl rfl h0
  have k1 := key (w 1) (w 0) (Nat.add_comm _ _) (Nat.gcd_comm _ _) h1
  have hl : allD 2 2 = [([], 0), ([], 1), ([0], 1), ([1], 0)] := by decide
  rw [hl] at he
  have c0 : cp 2 [] = [0, 1] := by decide
  have c1 : cp 2 [0] = [1] := by decide
  have c2 : cp 2 [1] = [0] := by decide
  have s0 : wS w [0, 1] = w 0 + w 1 := by simp [wS]
  have s1 : wS w [1] = w 1 := by simp [wS]
  have s2 : wS w [0] = w 0 := by simp [wS]
  have z0 : ((w 0 : Nat) : Rat) ≠ 0 := by exact_mod_cast (Nat.ne_of_gt h0)
  have z1 : ((w 1 : Nat) : Rat) ≠ 0 := by exact_mod_cast (Nat.ne_of_gt h1)
  simp only [List.mem_cons, List.not_mem_nil, or_false] at he
  rcases he with rfl | rfl | rfl | rfl
  · have : lvE w 2 ([], 0) = (w 0 : Rat) / ((w 0 + w 1 : Nat) : Rat) := by
      unfold lvE lvQ
      rw [c0, s0]
      show (w 0 : Rat) * (1 / _) = _
      grind
    rw [this, k0]
  · have : lvE w 2 ([], 1) = (w 1 : Rat) / ((w 0 + w 1 : Nat) : Rat) := by
      unfold lvE lvQ
      rw [c0, s0]
      show (w 1 : Rat) * (1 / _) = _
      grind
    rw [this, k1]
  · have : lvE w 2 ([0], 1) = (w 0 : Rat) / ((w 0 + w 1 : Nat) : Rat) := by
      unfold lvE lvQ
      rw [c1, s1]
      show (w 1 : Rat) * (1 / (w 1 : Rat) - 1 / ((w 1 : Rat) + (w 0 : Rat))) = _
      push_cast at hW ⊢
      grind
    rw [this, k0]
  · have : lvE w 2 ([1], 0) = (w 1 : Rat) / ((w 0 + w 1 : Nat) : Rat) := by
      unfold lvE lvQ
      rw [c2, s2]
      show (w 0 : Rat) * (1 / (w 0 : Rat) - 1 / ((w 0 : Rat) + (w 1 : Rat))) = _
      push_cast at hW ⊢
      grind
    rw [this, k1]
theorem two_least {w : Nat → Nat} (h0 : 0 < w 0) (h1 : 0 < w 1) : leastQ w 2 = (w 0 + w 1) / Nat.gcd (w 0) (w 1) := by
  have key : ∀ m, leastQ w 2 ∣ m ↔ (w 0 + w 1) / Nat.gcd (w 0) (w 1) ∣ m := fun m => by
    unfold leastQ
    rw [lcmL_dvd]
    constructor
    · intro h
      have := h _ (List.mem_map.mpr ⟨([], 0), by decide, rfl⟩)
      rw [two_den h0 h1 (by decide)] at this
      exact this
    · intro h d hd
      obtain ⟨e, he, rfl⟩ := List.mem_map.mp hd
      rw [two_den h0 h1 he]
      exact h
  exact Nat.dvd_antisymm ((key _).mpr (Nat.dvd_refl _)) ((key _).mp (Nat.dvd_refl _))
end Ef
set_option maxHeartbeats 4000000
namespace Ef
open PySem PySem.Spec PyProof.Rows L2 PySem.W
/-! ### a dict whose keys are tuples of tuples, walked; it is locked while it is -/
def ItN (P : Program) (w : World) (d : Addr) (o : Obj) (xs : List (NestedKey × Addr × V)) : It :=
  ⟨fun i H => H d = some (.frz o (DN P w d xs)) ∧ i < xs.length, fun i H x H' => H' = H ∧ ∃ y, xs[i]? = some y ∧ x = .ref y.2.1, fun i H => H d = some (.frz o (DN P w d xs)) ∧ xs.length ≤ i⟩
theorem walk_keysN {P : Program} {w : World} {d : Addr} {o : Obj} {xs : List (NestedKey × Addr × V)} : Walk (ItN P w d o xs) xs.length (fun H => H d = some (.frz o (DN P w d xs))) (fun i H x H' => H' = H ∧ ∃ y, xs[i]? = some y ∧ x = .ref y.2.1) :=
  ⟨fun _ _ hi q => ⟨q, hi⟩, fun _ q => ⟨q, Nat.le_refl _⟩, fun _ _ _ _ _ _ y => y⟩
def DAtF (P : Program) (w : World) (K : PySem.W.Frag) (H : Hp) (d : Addr) (kvs : List (NestedKey × V)) : Prop := ∃ o xs, H d = some (.frz o (DN P w d xs)) ∧ (∀ x ∈ xs, NkAt K H x.1 (.ref x.2.1) ∧ x.1.depth ≤ 8) ∧ kvs = KN xs
section
variable {X : Cx} {pins : List (Addr × Obj)} {σ : L2.St} {H : Hp} {s : Shared} {d : Addr} {o : Obj}
theorem frzN {xs : List (NestedKey × Addr × V)} (I : Inv X pins σ H s) (h : H d = some (.frz o (DN X.prog X.w d xs))) :
    (d == sysModules) = false ∧ s.heap.get? d = some o ∧ o.ExactDict ∧ ∃ (es : Array DictEntry) (ep : Nat) (ys : List (NestedKey × Addr × Value)), o.data = .dict es ep ∧ es.size = xs.length ∧ DRel xs ys ∧ es.toList = ys.map (entryOfKey (nestedKind X.prog X.w)) := by
  obtain ⟨hg, hx⟩ := (show ObjOk X.prog X.w H s.heap d (.frz o (DN X.prog X.w d xs)) from I.hok d _ h)
  obtain ⟨h1, h2, ys, rel, oo, es, ep, e1, e2, e3, e4, e5⟩ := hx.1
  obtain rfl : o = oo := Option.some.inj (hg.symm.trans e1)
  refine ⟨h1, hg, e2, es, ep, ys, e3, ?_, rel, e4⟩
  have l1 := size_of_entries e4
  have l2 : xs.length = ys.length := PySem.Paired.length rel
  omega
end
section
variable {P : Program} {w : World} {K : PySem.W.Frag} {tg : Expr} {d : Addr} {o : Obj} {es : Array DictEntry} {ep : Nat}
theorem turn_keysN {xs : List (NestedKey × Addr × V)} (it : Addr) (hod : o.data = .dict es ep) : Turn P w K tg (ItN P w d o xs) [it] it (fun i h => h.IsKeyIter it d i xs.length ep) where
  mem := by simp
  obj := fun i h st b hb => by
    have e : b = it := by simpa using hb
    subst e
    obtain ⟨oi, e, c, dd⟩ := st
    exact ⟨oi, e, fun v z => by rw [dd] at z; cases z⟩
  keep := fun i h h' st k => st.at fun oi e => k it (by simp) oi e
  item := by
    intro X hP hw hK hc i pins s σ H E I hf st hg
    subst hP hw hK
    obtain ⟨hd, hi⟩ := hg
    obtain ⟨f0, f1, f2, f3, f4, f5⟩ := hf it (by simp)
    obtain ⟨hs, hgd, hx, es', ep', ys, hdt, hsz, rel, e4⟩ := frzN I hd
    obtain ⟨rfl, rfl⟩ := dict_ep hod hdt
    obtain ⟨y, hy⟩ : ∃ p, xs[i]? = some p := ⟨xs[i], List.getElem?_eq_getElem hi⟩
    obtain ⟨z, hz, r1, r2, r3⟩ := paired_get rel hy
    have hen : es'[i]? = some (entryOfKey (nestedKind X.prog X.w) z) := by rw [entry_at e4 i, hz]; rfl
    refine next_key_item st hgd hdt hsz hen fun h' st' sb => ?_
    have I1 : Inv X pins σ H { s with heap := h' } := I.turned (t' := s.toks) (fun b ob hb e => (sb.2 b hb).trans e) f0 f1 f3 f4 f5
    obtain ⟨oi, e, c, dd⟩ := id st'
    exact ⟨.ref z.2.1, rfl, go_of (s := { s with heap := h' }) e c dd (by decide) ⟨.ref y.2.1, H, I1, by rw [r2]; rfl, ⟨rfl, y, hy, rfl⟩, st', fun b hb => (hf b hb).1⟩⟩
  done := by
    intro X hP hw hK hc i pins s σ H E I hf st hg
    subst hP hw hK
    obtain ⟨hd, hi⟩ := hg
    obtain ⟨f0, f1, f2, f3, f4, f5⟩ := hf it (by simp)
    obtain ⟨hs, hgd, hx, es', ep', ys, hdt, hsz, rel, e4⟩ := frzN I hd
    obtain ⟨rfl, rfl⟩ := dict_ep hod hdt
    exact next_key_end (I.ok.hd hc) st hgd hdt hsz hi fun h' eb => ⟨rfl, I.turned (t' := s.toks) (fun b ob hb e => eb b ob hb e) f0 f1 f3 f4 f5⟩
  self := fun A i s Q E st h => by
    refine wpAny_pyIter_slot st.typeIs PySem.F.slot_dict_keyiterator_iter (wpAny_call_entry PySem.F.slot_dict_keyiterator_iter st.typeIs PySem.F.entry_dict_keyiterator_iter ?_ (PySem.F.args_dict_keyiterator_iter_1 _))
    show wpAny _ _ (ret (.ref it)) _ _ s
    exact wpAny_pure ⟨_, rfl, "dict_keyiterator", _, st.typeIs, PySem.F.slot_dict_keyiterator_next.lookup, h⟩
end
def iKeysN (P : Program) (w : World) (td : TE) : TI := fun σ H R => td σ H fun x H1 => ∃ d xs, x = .ref d ∧ H1 d = some (DN P w d xs) ∧ ∀ o, R (ItN P w d o xs) (upd H1 d (.frz o (DN P w d xs)))
section
variable {X : Cx} {tg e : Expr} {td : TE} {P : Program} {w : World}
theorem pi_keysN (he : PE X e td) (hp : X.prog = P := by rfl) (hw : X.w = w := by rfl) : PI X tg e (iKeysN P w td) := by
  subst hp hw
  refine ⟨fun pins s σ H R I h => ?_⟩
  refine thn (he.run pins s σ H _ I h) fun u s1 ⟨x, H1, I1, rx, d, xs, ex, hd, q⟩ => ?_
  subst ex
  obtain rfl : u = Value.ref d := rx
  obtain ⟨o, I2⟩ := I1.lock hd True.intro
  have hd2 : (upd H1 d (.frz o (DN X.prog X.w d xs))) d = some (.frz o (DN X.prog X.w d xs)) := upd_same
  obtain ⟨hs, hgd, hx, es, ep, ys, hdt, hsz, rel, e4⟩ := frzN I2 hd2
  refine iter_keys hs hgd hx hdt (pi_one (tk := s1.toks) I2 _ (turn_keysN _ hdt) ⟨_, Heap.get?_push_size _ rfl, rfl, ?_⟩ (q o))
  rw [hsz] <;> rfl
theorem dat_frzN {pins : List (Addr × Obj)} {σ : L2.St} {H : Hp} {s : Shared} {a : Addr} {o : Obj} {xs : List (NestedKey × Addr × V)} (I : Inv X pins σ H s) (e : H a = some (.frz o (DN X.prog X.w a xs))) (hk : ∀ x ∈ xs, NkAt X.K H x.1 (.ref x.2.1) ∧ x.1.depth ≤ 8) :
    (a == sysModules) = false ∧ xs.length ≤ sizeLine ∧ ∃ ys, DRel xs ys ∧ s.heap.DictOfH (nestedKind X.prog X.w) a ys := by
  obtain ⟨h1, h2, ys, r, o, es, ep, e1, e2, e3, e4, e5⟩ := (show ObjOk X.prog X.w H s.heap a (.frz o (DN X.prog X.w a xs)) from I.hok a _ e).2.1
  refine ⟨h1, h2, ys, r, o, es, ep, e1, e2, e3, e4, ?_, e5⟩
  clear h2 e4 e5 e
  induction r with
  | nil => intro x hx; exact absurd hx List.not_mem_nil
  | @cons p q ps qs h t ih =>
    intro x hx
    rcases List.mem_cons.mp hx with rfl | hx
    · obtain ⟨z1, z2⟩ := hk p List.mem_cons_self
      rw [← h.1, ← h.2.1]
      exact ⟨nk_is I _ _ _ z1 rfl, z2⟩
    · exact ih (fun y hy => hk y (List.mem_cons_of_mem _ hy)) x hx
def rIxDNF (P : Program) (w : World) (K : PySem.W.Frag) : R2 := fun x y H Q => ∃ (d b : Addr) (kvs : List (NestedKey × V)) (k : NestedKey) (v : V), x = .ref d ∧ y = .ref b ∧ DAtF P w K H d kvs ∧ NkAt K H k (.ref b) ∧ k.depth ≤ 8 ∧ valV kvs k = some v ∧ Q v H
theorem ix_dNF (K : PySem.W.Frag) (hu : X.A.units + 9 < cLine) (hp : X.prog = P := by rfl) (hw : X.w = w := by rfl) (hk : X.K = K := by rfl) : IxR X (rIxDNF P w K) := by
  subst hp hw hk
  intro value slice pins s σ H x y v u Q I rx ry h hs
  obtain ⟨d, b, kvs, k, z, rfl, rfl, ⟨o, xs, e, hx, rfl⟩, hb, hd8, hv, q⟩ := h
  obtain rfl : v = Value.ref d := rx
  obtain rfl : u = Value.ref b := ry
  obtain ⟨h1, h2, ys, r, dd⟩ := dat_frzN I e hx
  obtain ⟨w', hw, rw'⟩ := RelO.some_of (v := z) (o := (atKey ys k).map (·.2)) (by rw [← hv]; exact r.val k)
  obtain ⟨p, hp, hp2⟩ := Option.map_eq_some_iff.mp hw
  refine tail_any (ops := [.ref d, .ref b]) dd.typeIs PySem.F.slot_dict_getitem.lookup ?_ hs
  refine wpAny_getItem_heap (nroom hu) (show (nestedKind X.prog X.w).is s.heap k b from ⟨nk_is I k _ _ hb rfl, hd8⟩) dd hp ?_
  rw [hp2]
  exact ⟨z, H, I.tok _, rw', q⟩
end
/-! x not in t, t a tuple of data -/
def rNotInT (K : PySem.W.Frag) : R2 := fun x y H Q => ∃ d ds, Dp K H x d ∧ Dp K H y (.tuple ds) ∧ SeqAt.shaped d = true ∧ SeqAt.shaped (.tuple ds) = true ∧ Q (.bl (!ds.any fun z => PyData.eqv z d)) H
theorem op_notInTK {X : Cx} (K : PySem.W.Frag) (hu : X.A.units + 65 < cLine) (hk : X.K = K := by rfl) : OpR X (compareOp .NotIn) (rNotInT K) := by
  subst hk
  intro pins s σ H x y v u Q I rx ry h
  obtain ⟨d, ds, hd, he, sd, se, q⟩ := h
  obtain ⟨as, r1⟩ := Dp.reads I d x v hd rx
  obtain ⟨bs, r2⟩ := Dp.reads I (.tuple ds) y u he ry
  exact SeqAt.notIn_tuple_reads r2 r1 (SeqAt.canLay_of_shaped se) (SeqAt.canLay_of_shaped sd) (room_in_shaped sd hu) ⟨.bl _, H, I, rfl, q⟩
end Ef
set_option maxHeartbeats 4000000
namespace Ef
open PySem PySem.Spec PyProof.Rows L2 PySem.W
/-! ### for k, v in d.items(), for v in d.values(): a dict whose keys are tuples of tuples; it is locked -/
def ItiN (P : Program) (w : World) (d : Addr) (o : Obj) (xs : List (NestedKey × Addr × V)) : It :=
  ⟨fun i H => H d = some (.frz o (DN P w d xs)) ∧ i < xs.length, fun i H x H' => ∃ T y, xs[i]? = some y ∧ x = .ref T ∧ H T = none ∧ H' = upd H T (.tup [.ref y.2.1, y.2.2]), fun i H => H d = some (.frz o (DN P w d xs)) ∧ xs.length ≤ i⟩
def ItvN (P : Program) (w : World) (d : Addr) (o : Obj) (xs : List (NestedKey × Addr × V)) : It :=
  ⟨fun i H => H d = some (.frz o (DN P w d xs)) ∧ i < xs.length, fun i H x H' => H' = H ∧ ∃ y, xs[i]? = some y ∧ x = y.2.2, fun i H => H d = some (.frz o (DN P w d xs)) ∧ xs.length ≤ i⟩
theorem walk_itemsN {P : Program} {w : World} {d : Addr} {o : Obj} {xs : List (NestedKey × Addr × V)} : Walk (ItiN P w d o xs) xs.length (fun H => H d = some (.frz o (DN P w d xs))) (fun i H x H' => ∃ T y, xs[i]? = some y ∧ x = .ref T ∧ H T = none ∧ H' = upd H T (.tup [.ref y.2.1, y.2.2])) :=
  ⟨fun _ _ hi q => ⟨q, hi⟩, fun _ q => ⟨q, Nat.le_refl _⟩, fun _ _ _ _ _ _ y => y⟩
theorem walk_valsN {P : Program} {w : World} {d : Addr} {o : Obj} {xs : List (NestedKey × Addr × V)} : Walk (ItvN P w d o xs) xs.length (fun H => H d = some (.frz o (DN P w d xs))) (fun i H x H' => H' = H ∧ ∃ y, xs[i]? = some y ∧ x = y.2.2) :=
  ⟨fun _ _ hi q => ⟨q, hi⟩, fun _ q => ⟨q, Nat.le_refl _⟩, fun _ _ _ _ _ _ y => y⟩
section
variable {P : Program} {w : World} {K : PySem.W.Frag} {tg : Expr} {d : Addr} {o : Obj} {es : Array DictEntry} {ep : Nat}
theorem turn_itemsN {xs : List (NestedKey × Addr × V)} {elts : List Expr} {kk : Nat} {tpos : Pos} (it : Addr) (hod : o.data = .dict es ep) :
    Turn P w K (.Tuple elts kk tpos) (ItiN P w d o xs) [it] it (fun i h => ∃ ok ov, h.get? it = some (DVw.itmOb d .none i xs.length ep ok ov)) where
  mem := by simp
  obj := fun i h st b hb => by
    have e : b = it := by simpa using hb
    subst e
    obtain ⟨ok, ov, e⟩ := st
    exact ⟨_, e, fun v z => nomatch z⟩
  keep := fun i h h' st k => let ⟨ok, ov, e⟩ := st; ⟨ok, ov, k it (by simp) _ e⟩
  item := by
    intro X hP hw hK hc i pins s σ H E I hf st hg
    subst hP hw hK
    obtain ⟨hd, hi⟩ := hg
    obtain ⟨hs, hgd, hx, es', ep', ys, hdt, hsz, rel, e4⟩ := frzN I hd
    obtain ⟨rfl, rfl⟩ := dict_ep hod hdt
    obtain ⟨y, hy⟩ : ∃ p, xs[i]? = some p := ⟨xs[i], List.getElem?_eq_getElem hi⟩
    obtain ⟨z, hz, r1, r2, r3⟩ := paired_get rel hy
    have hen : es'[i]? = some (entryOfKey (nestedKind X.prog X.w) z) := by rw [entry_at e4 i, hz]; rfl
    obtain ⟨ok, ov, hit⟩ := st
    have hlt : it < s.heap.objs.size := Heap.lt_size hit
    refine DVw.itm_item hit hgd hdt hsz hen fun h' b1 b2 b3 b4 => ?_
    refine ⟨_, rfl, wpAny_letOwnedTupleGo_items (s := { s with heap := h' }) (d := d) (i := i + 1) (n := xs.length) (ep := ep') b1 fun h'' he' sb => ?_⟩
    have hT2 : h''.get? s.heap.objs.size = some { cls := .type "tuple", data := .seq #[.ref z.2.1, z.2.2] } := (sb.2 _ (Nat.ne_of_gt hlt)).trans b2
    have new : ObjOk X.prog X.w (upd H s.heap.objs.size (.tup [.ref y.2.1, y.2.2])) h'' s.heap.objs.size (.tup [.ref y.2.1, y.2.2]) :=
      ⟨by show 2 ≤ sizeLine; decide, [.ref z.2.1, z.2.2], .cons (by rw [r2]; rfl) (.cons r3 .nil), ⟨_, hT2, rfl, _, rfl⟩⟩
    have I1 : Inv X pins σ (upd H s.heap.objs.size (.tup [.ref y.2.1, y.2.2])) { s with heap := h'' } :=
      I.turnedNew (t' := s.toks) (ch := [it]) (fun b ob hb z => (sb.2 b (by simpa using hb)).trans (b4 b ob (by simpa using hb) z)) hf (Nat.le_refl _) new
    refine ⟨.ref s.heap.objs.size, _, I1, rfl, ⟨_, y, hy, rfl, I.hok.fresh (Nat.le_refl _), rfl⟩, ⟨_, _, he'⟩, fun b hb => ?_⟩
    have z : b = it := by simpa using hb
    rw [z, upd_ne (Nat.ne_of_lt hlt)]
    exact (hf it (by simp)).1
  done := by
    intro X hP hw hK hc i pins s σ H E I hf st hg
    subst hP hw hK
    obtain ⟨hd, hi⟩ := hg
    obtain ⟨f0, f1, f2, f3, f4, f5⟩ := hf it (by simp)
    obtain ⟨hs, hgd, hx, es', ep', ys, hdt, hsz, rel, e4⟩ := frzN I hd
    obtain ⟨rfl, rfl⟩ := dict_ep hod hdt
    obtain ⟨ok, ov, hit⟩ := st
    have he : es'[i]? = none := Array.getElem?_eq_none (by omega)
    exact DVw.itm_end (I.ok.hd hc) hit hgd hdt hsz he fun h' eb => ⟨rfl, I.turned (t' := s.toks) (fun b ob hb e => eb b ob hb e) f0 f1 f3 f4 f5⟩
  self := fun A i s Q E st h => let ⟨_, _, e⟩ := st; PySem.W.kcp_self e h
theorem turn_valsN {xs : List (NestedKey × Addr × V)} (it : Addr) (hod : o.data = .dict es ep) : Turn P w K tg (ItvN P w d o xs) [it] it (fun i h => h.get? it = some (DVw.valOb d i xs.length ep)) where
  mem := by simp
  obj := fun i h st b hb => by
    have e : b = it := by simpa using hb
    subst e
    exact ⟨_, st, fun v z => nomatch z⟩
  keep := fun i h h' st k => k it (by simp) _ st
  item := by
    intro X hP hw hK hc i pins s σ H E I hf st hg
    subst hP hw hK
    obtain ⟨hd, hi⟩ := hg
    obtain ⟨f0, f1, f2, f3, f4, f5⟩ := hf it (by simp)
    obtain ⟨hs, hgd, hx, es', ep', ys, hdt, hsz, rel, e4⟩ := frzN I hd
    obtain ⟨rfl, rfl⟩ := dict_ep hod hdt
    obtain ⟨y, hy⟩ : ∃ p, xs[i]? = some p := ⟨xs[i], List.getElem?_eq_getElem hi⟩
    obtain ⟨z, hz, r1, r2, r3⟩ := paired_get rel hy
    have hen : es'[i]? = some (entryOfKey (nestedKind X.prog X.w) z) := by rw [entry_at e4 i, hz]; rfl
    refine DVw.val_item st hgd hdt hsz hen fun h' st' sb => ?_
    have I1 : Inv X pins σ H { s with heap := h' } := I.turned (t' := s.toks) (fun b ob hb e => (sb.2 b hb).trans e) f0 f1 f3 f4 f5
    exact ⟨z.2.2, rfl, go_of (s := { s with heap := h' }) st' rfl rfl (by decide) ⟨y.2.2, H, I1, r3, ⟨rfl, y, hy, rfl⟩, st', fun b hb => (hf b hb).1⟩⟩
  done := by
    intro X hP hw hK hc i pins s σ H E I hf st hg
    subst hP hw hK
    obtain ⟨hd, hi⟩ := hg
    obtain ⟨f0, f1, f2, f3, f4, f5⟩ := hf it (by simp)
    obtain ⟨hs, hgd, hx, es', ep', ys, hdt, hsz, rel, e4⟩ := frzN I hd
    obtain ⟨rfl, rfl⟩ := dict_ep hod hdt
    have he : es'[i]? = none := Array.getElem?_eq_none (by omega)
    exact DVw.val_end (I.ok.hd hc) st hgd hdt hsz he fun h' eb => ⟨rfl, I.turned (t' := s.toks) (fun b ob hb e => eb b ob hb e) f0 f1 f3 f4 f5⟩
  self := fun A i s Q E st h => wpAny_pyIter_valiter (i := i) (n := xs.length) (ep := ep) (d := d) ⟨_, st, rfl, rfl⟩ h
end
def iItemsN (P : Program) (w : World) (td : TE) : TI := fun σ H R => td σ H fun x H1 => ∃ d o xs, x = .ref d ∧ H1 d = some (.frz o (DN P w d xs)) ∧ R (ItiN P w d o xs) H1
def iValsN (P : Program) (w : World) (td : TE) : TI := fun σ H R => td σ H fun x H1 => ∃ d o xs, x = .ref d ∧ H1 d = some (.frz o (DN P w d xs)) ∧ R (ItvN P w d o xs) H1
section
variable {X : Cx} {tg e : Expr} {td : TE} {P : Program} {w : World} {apos cpos : Pos}
theorem pi_itemsN {elts : List Expr} {kk : Nat} {tpos : Pos} (he : PE X e td) (hp : X.prog = P := by rfl) (hw : X.w = w := by rfl) (hbase : attributeBase e "items" X.env (eval e X.env) = eval e X.env := by rfl) (hline : (apos.endLine == cpos.line) = true := by rfl) :
    PI X (.Tuple elts kk tpos) (.Call (.Attribute e "items" apos) [] [] cpos) (iItemsN P w td) := by
  subst hp hw
  refine ⟨fun pins s σ H R I h => ?_⟩
  refine wpAny_Call_method (T := "dict") (id := "dict.items") hbase rfl hline F.plainAttrs_dict F.slot_dict_items F.type_dict_items (thn (he.run pins s σ H _ I h) fun u s1 ⟨x, H1, I1, rx, d, o, xs, ex, hd, q⟩ => ?_)
  subst ex
  obtain rfl : u = Value.ref d := rx
  obtain ⟨hs, hgd, hx, es, ep, ys, hdt, hsz, rel, e4⟩ := frzN I1 hd
  refine ⟨⟨o, hgd, hx.1⟩, fun b q => ?_, ?_⟩
  · cases q
    exact ⟨o, hgd, hx.2.1⟩
  have I2 : Inv X pins σ H1 { s1 with heap := s1.heap.push { cls := .type "dict_items", data := .fields #[.ref d] } } := I1.kept (t' := s1.toks) fun b ob q => Heap.get?_push_of_some _ q
  have fin : wpAny (model X.prog X.w) X.A (pyIter (.ref s1.heap.objs.size)) (PIE X pins σ (.Tuple elts kk tpos) R) X.xe { s1 with heap := s1.heap.push { cls := .type "dict_items", data := .fields #[.ref d] } } := by
    refine DSub.iter_itms (a := d) (Heap.get?_push_size _ rfl) (Heap.get?_push_of_some _ hgd) hdt ?_
    refine pi_one (tk := s1.toks) I2 _ (turn_itemsN _ hdt) ⟨.none, .none, ?_⟩ q
    rw [← hsz]
    exact Heap.get?_push_size _ rfl
  show wpAny _ _ (callWith cpos (.builtin "dict.items") [.ref d] [] []) _ X.xe s1
  exact method_meetsIn F.slot_dict_items F.entry_dict_items rfl (PySem.evalArgs_none ⟨rfl, ⟨o, hgd, hx.1⟩, F.args_dict_items_1 _, _, meets_dict_items_raw d hs, ⟨es, ep, o, hgd, hx, hdt⟩, fin⟩)
theorem pi_valuesN (he : PE X e td) (hp : X.prog = P := by rfl) (hw : X.w = w := by rfl) (hbase : attributeBase e "values" X.env (eval e X.env) = eval e X.env := by rfl) (hline : (apos.endLine == cpos.line) = true := by rfl) :
    PI X tg (.Call (.Attribute e "values" apos) [] [] cpos) (iValsN P w td) := by
  subst hp hw
  refine ⟨fun pins s σ H R I h => ?_⟩
  refine wpAny_Call_method (T := "dict") (id := "dict.values") hbase rfl hline F.plainAttrs_dict F.slot_dict_values F.type_dict_values (thn (he.run pins s σ H _ I h) fun u s1 ⟨x, H1, I1, rx, d, o, xs, ex, hd, q⟩ => ?_)
  subst ex
  obtain rfl : u = Value.ref d := rx
  obtain ⟨hs, hgd, hx, es, ep, ys, hdt, hsz, rel, e4⟩ := frzN I1 hd
  refine ⟨⟨o, hgd, hx.1⟩, fun b q => ?_, ?_⟩
  · cases q
    exact ⟨o, hgd, hx.2.1⟩
  have I2 : Inv X pins σ H1 { s1 with heap := s1.heap.push { cls := .type "dict_values", data := .fields #[.ref d] } } := I1.kept (t' := s1.toks) fun b ob q => Heap.get?_push_of_some _ q
  have fin : wpAny (model X.prog X.w) X.A (pyIter (.ref s1.heap.objs.size)) (PIE X pins σ tg R) X.xe { s1 with heap := s1.heap.push { cls := .type "dict_values", data := .fields #[.ref d] } } := by
    refine DSub.iter_vals (a := d) (Heap.get?_push_size _ rfl) (Heap.get?_push_of_some _ hgd) hdt ?_
    refine pi_one (tk := s1.toks) I2 _ (turn_valsN _ hdt) ?_ q
    rw [← hsz]
    exact Heap.get?_push_size _ rfl
  show wpAny _ _ (callWith cpos (.builtin "dict.values") [.ref d] [] []) _ X.xe s1
  exact method_meetsIn F.slot_dict_values F.entry_dict_values rfl (PySem.evalArgs_none ⟨rfl, ⟨o, hgd, hx.1⟩, F.args_dict_values_1 _, _, meets_dict_values_raw d hs, ⟨es, ep, o, hgd, hx, hdt⟩, fin⟩)
end
/-! the keys of a locked dict -/
def iKeysF (P : Program) (w : World) (td : TE) : TI := fun σ H R => td σ H fun x H1 => ∃ d o xs, x = .ref d ∧ H1 d = some (.frz o (DN P w d xs)) ∧ R (ItN P w d o xs) H1
section
variable {X : Cx} {tg e : Expr} {td : TE} {P : Program} {w : World}
theorem pi_keysF (he : PE X e td) (hp : X.prog = P := by rfl) (hw : X.w = w := by rfl) : PI X tg e (iKeysF P w td) := by
  subst hp hw
  refine ⟨fun pins s σ H R I h => ?_⟩
  refine thn (he.run pins s σ H _ I h) fun u s1 ⟨x, H1, I1, rx, d, o, xs, ex, hd, q⟩ => ?_
  subst ex
  obtain rfl : u = Value.ref d := rx
  obtain ⟨hs, hgd, hx, es, ep, ys, hdt, hsz, rel, e4⟩ := frzN I1 hd
  refine iter_keys hs hgd hx hdt (pi_one (tk := s1.toks) I1 _ (turn_keysN _ hdt) ⟨_, Heap.get?_push_size _ rfl, rfl, ?_⟩ q)
  rw [hsz] <;> rfl
end
theorem upd_back {H : Hp} {d : Addr} {u v : HO} (h : H d = some u) : upd (upd H d v) d u = H := by
  funext b
  by_cases e : b = d
  · rw [e, upd_same, h]
  · rw [upd_ne e, upd_ne e]
/-! the dict is locked by the walk and stays so -/
def iItemsL (P : Program) (w : World) (td : TE) : TI := fun σ H R => td σ H fun x H1 => ∃ d xs, x = .ref d ∧ H1 d = some (DN P w d xs) ∧ ∀ o, R (ItiN P w d o xs) (upd H1 d (.frz o (DN P w d xs)))
def iValsL (P : Program) (w : World) (td : TE) : TI := fun σ H R => td σ H fun x H1 => ∃ d xs, x = .ref d ∧ H1 d = some (DN P w d xs) ∧ ∀ o, R (ItvN P w d o xs) (upd H1 d (.frz o (DN P w d xs)))
section
variable {X : Cx} {tg e : Expr} {td : TE} {P : Program} {w : World} {apos cpos : Pos}
theorem pi_itemsL {elts : List Expr} {kk : Nat} {tpos : Pos} (he : PE X e td) (hp : X.prog = P := by rfl) (hw : X.w = w := by rfl) (hbase : attributeBase e "items" X.env (eval e X.env) = eval e X.env := by rfl) (hline : (apos.endLine == cpos.line) = true := by rfl) :
    PI X (.Tuple elts kk tpos) (.Call (.Attribute e "items" apos) [] [] cpos) (iItemsL P w td) := by
  subst hp hw
  refine ⟨fun pins s σ H R I h => ?_⟩
  refine wpAny_Call_method (T := "dict") (id := "dict.items") hbase rfl hline F.plainAttrs_dict F.slot_dict_items F.type_dict_items (thn (he.run pins s σ H _ I h) fun u s1 ⟨x, H0, I0, rx, d, xs, ex, hd0, q0⟩ => ?_)
  subst ex
  obtain rfl : u = Value.ref d := rx
  obtain ⟨o, I1⟩ := I0.lock hd0 True.intro
  have hd : (upd H0 d (.frz o (DN X.prog X.w d xs))) d = some (.frz o (DN X.prog X.w d xs)) := upd_same
  have q := q0 o
  generalize upd H0 d (.frz o (DN X.prog X.w d xs)) = H1 at I1 hd q
  obtain ⟨hs, hgd, hx, es, ep, ys, hdt, hsz, rel, e4⟩ := frzN I1 hd
  refine ⟨⟨o, hgd, hx.1⟩, fun b q => ?_, ?_⟩
  · cases q
    exact ⟨o, hgd, hx.2.1⟩
  have I2 : Inv X pins σ H1 { s1 with heap := s1.heap.push { cls := .type "dict_items", data := .fields #[.ref d] } } := I1.kept (t' := s1.toks) fun b ob q => Heap.get?_push_of_some _ q
  have fin : wpAny (model X.prog X.w) X.A (pyIter (.ref s1.heap.objs.size)) (PIE X pins σ (.Tuple elts kk tpos) R) X.xe { s1 with heap := s1.heap.push { cls := .type "dict_items", data := .fields #[.ref d] } } := by
    refine DSub.iter_itms (a := d) (Heap.get?_push_size _ rfl) (Heap.get?_push_of_some _ hgd) hdt ?_
    refine pi_one (tk := s1.toks) I2 _ (turn_itemsN _ hdt) ⟨.none, .none, ?_⟩ q
    rw [← hsz]
    exact Heap.get?_push_size _ rfl
  show wpAny _ _ (callWith cpos (.builtin "dict.items") [.ref d] [] []) _ X.xe s1
  exact method_meetsIn F.slot_dict_items F.entry_dict_items rfl (PySem.evalArgs_none ⟨rfl, ⟨o, hgd, hx.1⟩, F.args_dict_items_1 _, _, meets_dict_items_raw d hs, ⟨es, ep, o, hgd, hx, hdt⟩, fin⟩)
theorem pi_valuesL (he : PE X e td) (hp : X.prog = P := by rfl) (hw : X.w = w := by rfl) (hbase : attributeBase e "values" X.env (eval e X.env) = eval e X.env := by rfl) (hline : (apos.endLine == cpos.line) = true := by rfl) :
    PI X tg (.Call (.Attribute e "values" apos) [] [] cpos) (iValsL P w td) := by
  subst hp hw
  refine ⟨fun pins s σ H R I h => ?_⟩
  refine wpAny_Call_method (T := "dict") (id := "dict.values") hbase rfl hline F.plainAttrs_dict F.slot_dict_values F.type_dict_values (thn (he.run pins s σ H _ I h) fun u s1 ⟨x, H0, I0, rx, d, xs, ex, hd0, q0⟩ => ?_)
  subst ex
  obtain rfl : u = Value.ref d := rx
  obtain ⟨o, I1⟩ := I0.lock hd0 True.intro
  have hd : (upd H0 d (.frz o (DN X.prog X.w d xs))) d = some (.frz o (DN X.prog X.w d xs)) := upd_same
  have q := q0 o
  generalize upd H0 d (.frz o (DN X.prog X.w d xs)) = H1 at I1 hd q
  obtain ⟨hs, hgd, hx, es, ep, ys, hdt, hsz, rel, e4⟩ := frzN I1 hd
  refine ⟨⟨o, hgd, hx.1⟩, fun b q => ?_, ?_⟩
  · cases q
    exact ⟨o, hgd, hx.2.1⟩
  have I2 : Inv X pins σ H1 { s1 with heap := s1.heap.push { cls := .type "dict_values", data := .fields #[.ref d] } } := I1.kept (t' := s1.toks) fun b ob q => Heap.get?_push_of_some _ q
  have fin : wpAny (model X.prog X.w) X.A (pyIter (.ref s1.heap.objs.size)) (PIE X pins σ tg R) X.xe { s1 with heap := s1.heap.push { cls := .type "dict_values", data := .fields #[.ref d] } } := by
    refine DSub.iter_vals (a := d) (Heap.get?_push_size _ rfl) (Heap.get?_push_of_some _ hgd) hdt ?_
    refine pi_one (tk := s1.toks) I2 _ (turn_valsN _ hdt) ?_ q
    rw [← hsz]
    exact Heap.get?_push_size _ rfl
  show wpAny _ _ (callWith cpos (.builtin "dict.values") [.ref d] [] []) _ X.xe s1
  exact method_meetsIn F.slot_dict_values F.entry_dict_values rfl (PySem.evalArgs_none ⟨rfl, ⟨o, hgd, hx.1⟩, F.args_dict_values_1 _, _, meets_dict_values_raw d hs, ⟨es, ep, o, hgd, hx, hdt⟩, fin⟩)
end
/-! ### d.items() as a value -/
def tItemsN (P : Program) (w : World) (to : TE) : TE := fun σ H Q => to σ H fun x H1 => ∃ a xs, x = .ref a ∧ H1 a = some (DN P w a xs) ∧ ∀ p, H1 p = none → Q (.ref p) (upd H1 p (viewO "dict_items" p a))
section
variable {X : Cx} {P : Program} {w : World}
theorem pe_itemsN {o : Expr} {to : TE} {apos cpos : Pos} (ho : PE X o to) (hp : X.prog = P := by rfl) (hw : X.w = w := by rfl) (hbase : attributeBase o "items" X.env (eval o X.env) = eval o X.env := by rfl) (hline : (apos.endLine == cpos.line) = true := by rfl) :
    PE X (.Call (.Attribute o "items" apos) [] [] cpos) (tItemsN P w to) := by
  subst hp hw
  refine ⟨fun pins s σ H Q I h => ?_⟩
  refine wpAny_Call_method0_late hbase hline (thn (ho.run pins s σ H _ I h) fun v s1 ⟨x, H1, I1, r1, a, xs, ex, ea, q1⟩ => ?_)
  subst ex
  obtain rfl : v = Value.ref a := r1
  obtain ⟨h1, _, ys, _, oo, es, ep, e1, e2, e3, _⟩ := (I1.hok a _ ea).1
  refine ⟨"dict", "dict.items", PySem.F.plainAttrs_dict, PySem.F.slot_dict_items, PySem.F.type_dict_items, ⟨oo, e1, e2.1⟩, fun b q => ?_, Calls.callWith_builtin rfl (PySem.evalArgs_none ?_)⟩
  · cases q
    exact ⟨oo, e1, e2.2.1⟩
  refine call_meetsIn PySem.F.slot_dict_items ⟨oo, e1, e2.1⟩ PySem.F.entry_dict_items (PySem.F.args_dict_items_1 _) (meets_dict_items_raw a h1) ⟨⟨es, ep, oo, e1, e2, e3⟩, ?_⟩
  exact ⟨.ref s1.heap.objs.size, _, I1.laid (t' := s1.toks) (fun b o q => Heap.get?_push_of_some _ q) (Nat.le_refl _) (viewO_ok (Heap.get?_push_size _ rfl)), rfl, q1 _ (I1.hok.fresh (Nat.le_refl _))⟩
end
end Ef
set_option maxHeartbeats 4000000
namespace Ef
open PySem PySem.Spec PyProof.Rows L2 PySem.W
/-! ### sorted(d.items()), the keys tuples of tuples, the values as well -/
def layM (ps : List (Addr × HO)) (H : Hp) : Hp := fun b => match ps.lookup b with
  | some o => some o
  | none => H b
theorem lk_zip {α : Type} (f : α → HO) : ∀ (as : List Addr) (xs : List α), as.Pairwise (· < ·) → ∀ (j : Nat) (a : Addr) (x : α), as[j]? = some a → xs[j]? = some x → (List.zipWith (fun a x => (a, f x)) as xs).lookup a = some (f x)
  | [], _, _, _, _, _, h, _ => by cases h
  | _ :: _, [], _, _, _, _, _, h => by cases h
  | b :: as, y :: xs, hp, j, a, x, h1, h2 => by
    obtain ⟨p1, p2⟩ := List.pairwise_cons.mp hp
    rw [List.zipWith_cons_cons, List.lookup_cons]
    cases j with
    | zero =>
      obtain rfl := Option.some.inj h1
      obtain rfl := Option.some.inj h2
      rw [show (b == b) = true from beq_self_eq_true b]
    | succ j =>
      have hm := p1 a (List.mem_of_getElem? (show as[j]? = some a from h1))
      rw [show (a == b) = false from beq_eq_false_iff_ne.mpr (Nat.ne_of_gt hm)]
      exact lk_zip f as xs p2 j a x h1 h2
theorem lk_inv {α : Type} (f : α → HO) : ∀ (as : List Addr) (xs : List α) (b : Addr) (o : HO), (List.zipWith (fun a x => (a, f x)) as xs).lookup b = some o → ∃ (j : Nat) (x : α), as[j]? = some b ∧ xs[j]? = some x ∧ o = f x
  | [], _, _, _, h => by cases h
  | _ :: _, [], _, _, h => by cases h
  | a :: as, y :: xs, b, o, h => by
    rw [List.zipWith_cons_cons, List.lookup_cons] at h
    cases e : b == a with
    | true =>
      rw [e] at h
      exact ⟨0, y, by rw [LawfulBEq.eq_of_beq e]; rfl, rfl, (Option.some.inj h).symm⟩
    | false =>
      rw [e] at h
      obtain ⟨j, x, h1, h2, h3⟩ := lk_inv f as xs b o h
      exact ⟨j + 1, x, h1, h2, h3⟩
section
variable {X : Cx} {pins : List (Addr × Obj)} {σ : L2.St} {H H' : Hp} {s : Shared} {h' : Heap}
theorem Inv_laidM {t' : Nat} (I : Inv X pins σ H s) (k : ∀ b u, s.heap.get? b = some u → h'.get? b = some u) (sm : Same H H') (new : ∀ b o, H' b = some o → H b = none → s.heap.objs.size ≤ b ∧ ObjOk X.prog X.w H' h' b o) : Inv X pins σ H' { s with heap := h', toks := t' } := by
  refine I.un ⟨fun b u q _ _ _ => k b u q, fun b u q _ _ _ => ⟨u.slots, k b u q⟩, fun b u q n _ => ?_, fun b u q _ => ⟨u, k b u q⟩, fun b xs q => sm _ _ q, fun b u xs q => sm _ _ q, fun b ps q => ⟨#[], by rw [sm _ _ q]; simp⟩⟩ fun b u e => ?_
  · cases e : H' b with
    | none => rfl
    | some o => exact absurd (Nat.lt_of_lt_of_le (Heap.lt_size q) (new b o e n).1) (Nat.lt_irrefl _)
  · cases e0 : H b with
    | none => exact (new b u e e0).2
    | some u0 =>
      have e1 := sm _ _ e0
      rw [e] at e1
      obtain rfl := Option.some.inj e1
      exact (I.hok b u e0).stay (fun c v _ q => k c v q) (fun c q => sm _ _ q) fun c xs q => sm _ _ q
end
theorem each_zip {α : Type} {R : Value → α → Prop} : ∀ (us : List Value) (xs : List α), us.length = xs.length → (∀ (j : Nat) (u : Value) (x : α), us[j]? = some u → xs[j]? = some x → R u x) → EachIs R us xs
  | [], [], _, _ => .nil
  | [], _ :: _, h, _ => by cases h
  | _ :: _, [], h, _ => by cases h
  | u :: us, x :: xs, h, q => .cons (q 0 u x rfl rfl) (each_zip us xs (by simpa using h) fun j a b h1 h2 => q (j + 1) a b h1 h2)
def rSortItN (P : Program) (w : World) (K : PySem.W.Frag) : List V → Hp → VK → Prop := fun vs H Q => ∃ (p d : Addr) (kvs : List (NestedKey × V)) (pks : List NestedKey), vs = [V.ref p] ∧ H p = some (viewO "dict_items" p d) ∧ DAt P w K H d kvs ∧ kvs.length = pks.length ∧ (∀ (j : Nat) (kv : NestedKey × V) (k : NestedKey), kvs[j]? = some kv → pks[j]? = some k → ∃ k2, k = .tup [kv.1, k2] ∧ NkAt K H k2 kv.2) ∧
  AllAlike (pks.map NestedKey.data) ∧ Sortable (pks.map NestedKey.data) ∧ (∀ k ∈ pks, k.data.depth ≤ 20) ∧
  ∀ H' p us, Same H H' → H p = none → H' p = some (.lst us) → PySem.Paired (fun v k => NkAt K H' k v) us (pks.mergeSort nLe) → Q (.ref p) H'
section
variable {X : Cx} {P : Program} {w : World}
theorem cr_sortItN (K : PySem.W.Frag) (hc : X.calm = true) (hu : X.A.units + 64 < cLine) (hp : X.prog = P := by rfl) (hw : X.w = w := by rfl) (hk : X.K = K := by rfl) : CallR X (.builtin "sorted") (rSortItN P w K) := by
  subst hp hw hk
  intro pins s σ H vs us Q I r hq
  obtain ⟨p, d, kvs, pks, rfl, hpv, ⟨xs, e, hx, rfl⟩, hlen, hpk, hal, hso, hdp, q⟩ := hq
  obtain ⟨u, rfl, ru⟩ := vals1 r
  obtain rfl : u = Value.ref p := ru
  obtain ⟨h1, h2, ys, rel, o, es, ep, e1, e2, e3, e4, e5⟩ := (I.hok d _ e).1
  have l1 : es.size = ys.length := size_of_entries e4
  have l2 : xs.length = ys.length := PySem.Paired.length rel
  have hKN : (KN xs).length = xs.length := by
    unfold KN
    rw [List.length_map]
  have hv : s.heap.get? p = some (DSub.viewOb "dict_items" d) := (show ObjOk X.prog X.w H s.heap p (viewO "dict_items" p d) from I.hok p _ hpv).1
  refine Calls.call_function_entry PyProof.Rows.kind_sorted PyProof.Rows.plain_sorted PyProof.Rows.entry_sorted (PyProof.Rows.args_sorted1 _) ?_
  unfold Builtin.«sorted»
  refine wpAny_bind (m := checkCount "sorted" 1 1 _) (wpAny_pure ?_)
  refine wpAny_bind (PySem.W.dil_collect (A := X.A.in1) (I.ok.hd hc) ⟨_, hv, rfl, rfl⟩ ⟨o, e1, e2, e3⟩ (by omega) fun h' tk as hk' hl hG => ?_)
  -- the new tuples
  generalize hps : List.zipWith (fun a (x : NestedKey × Addr × V) => (a, HO.tup [.ref x.2.1, x.2.2])) as xs = ps
  have inv : ∀ b o, ps.lookup b = some o → ∃ (j : Nat) (x : NestedKey × Addr × V), as[j]? = some b ∧ xs[j]? = some x ∧ o = HO.tup [.ref x.2.1, x.2.2] := fun b o h => lk_inv (fun x : NestedKey × Addr × V => HO.tup [.ref x.2.1, x.2.2]) as xs b o (by rw [hps]; exact h)
  have at_ : ∀ (j : Nat) (a : Addr) (x : NestedKey × Addr × V), as[j]? = some a → xs[j]? = some x → layM ps H a = some (HO.tup [.ref x.2.1, x.2.2]) := fun j a x ha hxj => by
    have := lk_zip (fun x : NestedKey × Addr × V => HO.tup [.ref x.2.1, x.2.2]) as xs hG.rise j a x ha hxj
    rw [hps] at this
    unfold layM
    rw [this]
  have hno : ∀ a ∈ as, H a = none := fun a ha => I.hok.fresh (Nat.le_of_lt (hG.above a ha))
  have sm : Same H (layM ps H) := fun b o h => by
    unfold layM
    cases hl : ps.lookup b with
    | none => exact h
    | some o' =>
      obtain ⟨j, x, ha, _⟩ := inv b o' hl
      rw [hno b (List.mem_of_getElem? ha)] at h
      cases h
  have I1 : Inv X pins σ (layM ps H) { s with heap := h', toks := tk } := Inv_laidM I hk' sm fun b o hb hn => by
    unfold layM at hb
    cases hl : ps.lookup b with
    | none =>
      rw [hl] at hb
      rw [hn] at hb
      cases hb
    | some o' =>
      rw [hl] at hb
      obtain rfl := Option.some.inj hb
      obtain ⟨j, x, ha, hxj, rfl⟩ := inv b o' hl
      obtain ⟨y, hy, r1, r2, r3⟩ := paired_get rel hxj
      obtain ⟨hj, hT⟩ := hG.pairs j b ha
      have hen : es[j]? = some (entryOfKey (nestedKind X.prog X.w) y) := by rw [entry_at e4 j, hy]; rfl
      have hen2 : es[j] = entryOfKey (nestedKind X.prog X.w) y := Option.some.inj ((Array.getElem?_eq_getElem hj).symm.trans hen)
      rw [hen2] at hT
      exact ⟨Nat.le_of_lt (hG.above b (List.mem_of_getElem? ha)), by show 2 ≤ sizeLine; decide, [.ref y.2.1, y.2.2], .cons (by rw [r2]; rfl) (.cons r3 .nil), ⟨_, hT, rfl, _, rfl⟩⟩
  have nk : ∀ (j : Nat) (a : Addr) (k : NestedKey), as[j]? = some a → pks[j]? = some k → NkAt X.K (layM ps H) k (.ref a) := fun j a k ha hkj => by
    have hj : j < xs.length := by
      have := (List.getElem?_eq_some_iff.mp ha).1
      omega
    have hxj : xs[j]? = some xs[j] := List.getElem?_eq_getElem hj
    obtain ⟨k2, rfl, hk2⟩ := hpk j (xs[j].1, xs[j].2.2) k (by unfold KN; rw [List.getElem?_map, hxj]; rfl) hkj
    refine .tup (SqT.of (at_ j a _ ha hxj)) (.cons ((hx _ (List.mem_of_getElem? hxj)).1.same sm) (.cons (hk2.same sm) .nil))
  have la : as.length = pks.length := by omega
  generalize hbs : List.zipWith (fun a k => ((k : NestedKey), V.ref a)) as pks = bs
  have bl : bs.length = as.length := by rw [← hbs, List.length_zipWith]; omega
  have bat : ∀ (j : Nat) (b : NestedKey × V), bs[j]? = some b → ∃ a, as[j]? = some a ∧ pks[j]? = some b.1 ∧ b.2 = .ref a := fun j b hb => by
    rw [← hbs, List.getElem?_zipWith] at hb
    cases h1 : as[j]? with
    | none => rw [h1] at hb; cases hb
    | some a =>
      cases h2 : pks[j]? with
      | none => rw [h1, h2] at hb; cases hb
      | some k =>
        rw [h1, h2] at hb
        obtain rfl := Option.some.inj hb
        exact ⟨a, rfl, rfl, rfl⟩
  have bk : bs.map (·.1) = pks := by
    apply List.ext_getElem?
    intro j
    rw [List.getElem?_map]
    cases hb : bs[j]? with
    | none =>
      have := List.getElem?_eq_none_iff.mp hb
      rw [List.getElem?_eq_none (by omega)]
      rfl
    | some b =>
      obtain ⟨a, _, h2, _⟩ := bat j b hb
      rw [h2]
      rfl
  have bnk : ∀ b ∈ bs, NkAt X.K (layM ps H) b.1 b.2 := fun b hb => by
    obtain ⟨j, hj⟩ := List.mem_iff_getElem?.mp hb
    obtain ⟨a, h1, h2, h3⟩ := bat j b hj
    rw [h3]
    exact nk j a _ h1 h2
  have hsz : as.length ≤ sizeLine := by omega
  refine wpAny_bind (wpAny_newList ?_ (by rw [List.length_map]; exact hsz))
  have hoL : (h'.push (seqObj "list" (as.map Value.ref).toArray 0)).get? h'.objs.size = some (seqObj "list" (as.map Value.ref).toArray 0) := Heap.get?_push_size _ rfl
  show wpAny _ _ _ _ _ { s with heap := h'.push (seqObj "list" (as.map Value.ref).toArray 0), toks := tk }
  have I2 : Inv X pins σ (layM ps H) { s with heap := h'.push (seqObj "list" (as.map Value.ref).toArray 0), toks := tk } := I1.kept (t' := tk) fun b u e => Heap.get?_push_of_some _ e
  have ref_at : ∀ (j : Nat) (u : Value) (b : NestedKey × V), (as.map Value.ref)[j]? = some u → bs[j]? = some b → ∃ a, u = .ref a ∧ b.2 = .ref a := fun j u b hu hb => by
    obtain ⟨a, h1, _, h3⟩ := bat j b hb
    rw [List.getElem?_map, h1] at hu
    exact ⟨a, (Option.some.inj hu).symm, h3⟩
  refine wpAny_bind (wpAny_holding (list_sort_data (s := { s with heap := h'.push (seqObj "list" (as.map Value.ref).toArray 0), toks := tk }) (β := NestedKey × V) (bs := bs) (enc := fun b : NestedKey × V => b.1.data) (R := fun u (b : NestedKey × V) => RelV b.2 u) hoL
    (each_zip _ _ (by rw [List.length_map, bl]) fun j u b hu hb => by
      obtain ⟨a, rfl, h3⟩ := ref_at j u b hu hb
      rw [h3]
      rfl)
    (each_zip _ _ (by rw [List.length_map, bl]) fun j u b hu hb => by
      obtain ⟨a, rfl, h3⟩ := ref_at j u b hu hb
      have hb2 := bnk b (List.mem_of_getElem? hb)
      rw [h3] at hb2
      exact ⟨[], nk_reads I2 _ _ _ hb2 rfl, List.not_mem_nil⟩)
    (by rw [← bk, List.map_map] at hal; exact hal) (by rw [← bk, List.map_map] at hso; exact hso) (by omega) (fun b hb => ?_) fun out hout eo => ?_))
  · have := hdp b.1 (by rw [← bk]; exact List.mem_map.mpr ⟨b, hb, rfl⟩)
    show X.A.in1.units + 1 + _ < _
    rw [Around.in1_units]
    omega
  · obtain ⟨e', he'⟩ := PyProof.Rows.sortedHeap_at (vs := as.map Value.ref) (out := out.toArray) hoL
    have hv := each_paired eo
    have hlen2 : ((bs.mergeSort (dataLe false fun b : NestedKey × V => b.1.data)).map (·.2)).length ≤ sizeLine := by
      rw [List.length_map, List.length_mergeSort]
      omega
    have fr := I1.hok.fresh (Nat.le_refl _)
    have I3 : Inv X pins σ (upd (layM ps H) h'.objs.size (.lst ((bs.mergeSort (dataLe false fun b : NestedKey × V => b.1.data)).map (·.2)))) { s with heap := sortedHeap (h'.push (seqObj "list" (as.map Value.ref).toArray 0)) h'.objs.size (as.map Value.ref) (List.toArray out), toks := tk } := I1.laid (t' := tk) (fun b u e => by
      have hb : b < h'.objs.size := Heap.lt_size e
      rw [PyProof.Rows.sortedHeap_old (Nat.ne_of_lt hb) (by rw [size_push']; exact Nat.lt_succ_of_lt hb)]
      exact Heap.get?_push_of_some _ e) (Nat.le_refl _) (show ObjOk X.prog X.w _ _ _ (.lst _) from ⟨hlen2, out, e', hv, he'⟩)
    refine wpAny_pure ⟨_, rfl, .ref h'.objs.size, _, I3, rfl, q _ _ _ (sm.trans (same_new fr)) (sm.free fr) upd_same ?_⟩
    have em : (bs.mergeSort (dataLe false fun b : NestedKey × V => b.1.data)).map (·.1) = (bs.map (·.1)).mergeSort nLe := List.map_mergeSort fun a _ b _ => rfl
    rw [← bk, ← em]
    have all : ∀ b ∈ bs.mergeSort (dataLe false fun b : NestedKey × V => b.1.data), NkAt X.K (upd (layM ps H) h'.objs.size (.lst ((bs.mergeSort (dataLe false fun b : NestedKey × V => b.1.data)).map (·.2)))) b.1 b.2 := fun b hb => (bnk b ((List.mergeSort_perm _ _).mem_iff.mp hb)).same (same_new fr)
    exact nk_paired all
end
end Ef
namespace Ef
open PySem PySem.Spec PyProof.Rows L2
def topS (i : Nat) : Stmt := PySem.Challenge.pw_evenfailover_k35_least_number_of_weighte.main.body.getD i (.Pass ⟨0, 0, 0, 0⟩)
abbrev sGcd : Stmt := topS 1
abbrev NGcd : List Str := ["a", "b"]
theorem scGcd : FnScope ["a", "b"] ["a", "b"] (defScope sGcd) := ⟨rfl, rfl, rfl, by decide +kernel, rfl, by decide +kernel, by decide +kernel⟩
abbrev sLcm : Stmt := topS 2
abbrev NLcm : List Str := ["a", "b", "divisor"]
theorem scLcm : FnScope ["a", "b", "divisor"] ["a", "b"] (defScope sLcm) := ⟨rfl, rfl, rfl, by decide +kernel, rfl, by decide +kernel, by decide +kernel⟩
abbrev sOut : Stmt := topS 4
abbrev NOut : List Str := ["n", "members", "taken", "others", "server"]
theorem scOut : FnScope ["n", "members", "taken", "others", "server"] ["n", "members"] (defScope sOut) := ⟨rfl, rfl, rfl, by decide +kernel, rfl, by decide +kernel, by decide +kernel⟩
abbrev sAmong : Stmt := topS 5
abbrev NAmong : List Str := ["servers", "size", "beginnings", "missing", "longer", "members", "start", "index"]
theorem scAmong : FnScope ["servers", "size", "beginnings", "missing", "longer", "members", "start", "index"] ["servers", "size"] (defScope sAmong) := ⟨rfl, rfl, rfl, by decide +kernel, rfl, by decide +kernel, by decide +kernel⟩
abbrev sShare : Stmt := topS 7
abbrev NShare : List Str := ["numerator", "denominator", "divisor"]
theorem scShare : FnScope ["numerator", "denominator", "divisor"] ["numerator", "denominator"] (defScope sShare) := ⟨rfl, rfl, rfl, by decide +kernel, rfl, by decide +kernel, by decide +kernel⟩
abbrev sFShare : Stmt := topS 8
abbrev NFShare : List Str := ["weights", "live", "server", "total", "other"]
theorem scFShare : FnScope ["weights", "live", "server", "total", "other"] ["weights", "live", "server"] (defScope sFShare) := ⟨rfl, rfl, rfl, by decide +kernel, rfl, by decide +kernel, by decide +kernel⟩
abbrev sLShare : Stmt := topS 9
abbrev NLShare : List Str := ["weights", "members", "server", "others", "numerator", "denominator", "sign", "size", "subset", "part", "whole", "common"]
theorem scLShare : FnScope ["weights", "members", "server", "others", "numerator", "denominator", "sign", "size", "subset", "part", "whole", "common"] ["weights", "members", "server"] (defScope sLShare) := ⟨rfl, rfl, rfl, by decide +kernel, rfl, by decide +kernel, by decide +kernel⟩
abbrev sLShs : Stmt := topS 10
abbrev NLShs : List Str := ["weights", "servers", "shares", "size", "members", "server"]
theorem scLShs : FnScope ["weights", "servers", "shares", "size", "members", "server"] ["weights"] (defScope sLShs) := ⟨rfl, rfl, rfl, by decide +kernel, rfl, by decide +kernel, by decide +kernel⟩
abbrev sLCnt : Stmt := topS 11
abbrev NLCnt : List Str := ["shares", "least", "edge"]
theorem scLCnt : FnScope ["shares", "least", "edge"] ["shares"] (defScope sLCnt) := ⟨rfl, rfl, rfl, by decide +kernel, rfl, by decide +kernel, by decide +kernel⟩
abbrev sLWt : Stmt := topS 12
abbrev NLWt : List Str := ["weights"]
theorem scLWt : FnScope ["weights"] ["weights"] (defScope sLWt) := ⟨rfl, rfl, rfl, by decide +kernel, rfl, by decide +kernel, by decide +kernel⟩
abbrev sDrws : Stmt := topS 14
abbrev NDrws : List Str := ["_law_script", "_law_k", "_law_cell", "_law_great"]
theorem scDrws : FnScope ["_law_script", "_law_k", "_law_cell", "_law_great"] ["_law_script", "_law_k"] (defScope sDrws) := ⟨rfl, rfl, rfl, by decide +kernel, rfl, by decide +kernel, by decide +kernel⟩
abbrev sBelow : Stmt := topS 15
abbrev NBelow : List Str := ["_law_draws_here", "_law_many", "_law_digit", "_law_step", "_law_prime", "_law_mixed"]
theorem scBelow : FnScope ["_law_draws_here", "_law_many", "_law_digit", "_law_step", "_law_prime", "_law_mixed"] ["_law_draws_here", "_law_many"] (defScope sBelow) := ⟨rfl, rfl, rfl, by decide +kernel, rfl, by decide +kernel, by decide +kernel⟩
abbrev sPickD : Stmt := topS 16
abbrev NPickD : List Str := ["_law_draws_here", "_law_items"]
theorem scPickD : FnScope ["_law_draws_here", "_law_items"] ["_law_draws_here", "_law_items"] (defScope sPickD) := ⟨rfl, rfl, rfl, by decide +kernel, rfl, by decide +kernel, by decide +kernel⟩
abbrev sCommon : Stmt := topS 17
abbrev NCommon : List Str := ["_law_one", "_law_other"]
theorem scCommon : FnScope ["_law_one", "_law_other"] ["_law_one", "_law_other"] (defScope sCommon) := ⟨rfl, rfl, rfl, by decide +kernel, rfl, by decide +kernel, by decide +kernel⟩
abbrev sCut : Stmt := topS 18
abbrev NCut : List Str := ["_law_top", "_law_bottom", "_law_common_here"]
theorem scCut : FnScope ["_law_top", "_law_bottom", "_law_common_here"] ["_law_top", "_law_bottom"] (defScope sCut) := ⟨rfl, rfl, rfl, by decide +kernel, rfl, by decide +kernel, by decide +kernel⟩
abbrev sAdded : Stmt := topS 19
abbrev NAdded : List Str := ["_law_one", "_law_other"]
theorem scAdded : FnScope ["_law_one", "_law_other"] ["_law_one", "_law_other"] (defScope sAdded) := ⟨rfl, rfl, rfl, by decide +kernel, rfl, by decide +kernel, by decide +kernel⟩
abbrev sWts : Stmt := topS 20
abbrev NWts : List Str := ["_law_draws_here", "_law_least_here", "_law_most", "_law_top", "_law_server"]
theorem scWts : FnScope ["_law_draws_here", "_law_least_here", "_law_most", "_law_top", "_law_server"] ["_law_draws_here", "_law_least_here", "_law_most", "_law_top"] (defScope sWts) := ⟨rfl, rfl, rfl, by decide +kernel, rfl, by decide +kernel, by decide +kernel⟩
abbrev sShs : Stmt := topS 21
abbrev NShs : List Str := ["_law_weights_here", "_law_n", "_law_chance_at", "_law_found", "_law_size", "_law_later", "_law_members", "_law_chance", "_law_others", "_law_server", "_law_total", "_law_share", "_law_there"]
theorem scShs : FnScope ["_law_weights_here", "_law_n", "_law_chance_at", "_law_found", "_law_size", "_law_later", "_law_members", "_law_chance", "_law_others", "_law_server", "_law_total", "_law_share", "_law_there"] ["_law_weights_here"] (defScope sShs) := ⟨rfl, rfl, rfl, by decide +kernel, rfl, by decide +kernel, by decide +kernel⟩
abbrev sLeast34 : Stmt := topS 22
abbrev NLeast34 : List Str := ["_law_weights_here", "_law_found", "_law_top", "_law_bottom"]
theorem scLeast34 : FnScope ["_law_weights_here", "_law_found", "_law_top", "_law_bottom"] ["_law_weights_here"] (defScope sLeast34) := ⟨rfl, rfl, rfl, by decide +kernel, rfl, by decide +kernel, by decide +kernel⟩
abbrev sLaw : Stmt := topS 23
abbrev NLaw : List Str := ["_law_script", "_law_k", "_law_draws_here", "_law_chosen", "_law_two", "_law_n", "_law_due", "_law_number"]
theorem scLaw : FnScope ["_law_script", "_law_k", "_law_draws_here", "_law_chosen", "_law_two", "_law_n", "_law_due", "_law_number"] ["_law_script"] (defScope sLaw) := ⟨rfl, rfl, rfl, by decide +kernel, rfl, by decide +kernel, by decide +kernel⟩
/-- what stands behind the top: each def, how it binds, and that the built-ins' names are free -/
structure Txt (K : PySem.W.Frag) (mg : Str → Option Value) where
  fGcd : Addr
  fdGcd : FuncData
  FGcd : Fun K "greatest_divisor" "greatest_divisor" sGcd fGcd fdGcd
  bGcd : Binds K fdGcd ["a", "b"] []
  gGcd : mg "greatest_divisor" = some (.ref fGcd)
  fLcm : Addr
  fdLcm : FuncData
  FLcm : Fun K "least_multiple" "least_multiple" sLcm fLcm fdLcm
  bLcm : Binds K fdLcm ["a", "b"] []
  gLcm : mg "least_multiple" = some (.ref fLcm)
  fOut : Addr
  fdOut : FuncData
  FOut : Fun K "outside" "outside" sOut fOut fdOut
  bOut : Binds K fdOut ["n", "members"] []
  gOut : mg "outside" = some (.ref fOut)
  fAmong : Addr
  fdAmong : FuncData
  FAmong : Fun K "sets_among" "sets_among" sAmong fAmong fdAmong
  bAmong : Binds K fdAmong ["servers", "size"] []
  gAmong : mg "sets_among" = some (.ref fAmong)
  fShare : Addr
  fdShare : FuncData
  FShare : Fun K "share" "share" sShare fShare fdShare
  bShare : Binds K fdShare ["numerator", "denominator"] []
  gShare : mg "share" = some (.ref fShare)
  fFShare : Addr
  fdFShare : FuncData
  FFShare : Fun K "first_share" "first_share" sFShare fFShare fdFShare
  bFShare : Binds K fdFShare ["weights", "live", "server"] []
  gFShare : mg "first_share" = some (.ref fFShare)
  fLShare : Addr
  fdLShare : FuncData
  FLShare : Fun K "level_share" "level_share" sLShare fLShare fdLShare
  bLShare : Binds K fdLShare ["weights", "members", "server"] []
  gLShare : mg "level_share" = some (.ref fLShare)
  fLShs : Addr
  fdLShs : FuncData
  FLShs : Fun K "level_shares" "level_shares" sLShs fLShs fdLShs
  bLShs : Binds K fdLShs ["weights"] []
  gLShs : mg "level_shares" = some (.ref fLShs)
  fLCnt : Addr
  fdLCnt : FuncData
  FLCnt : Fun K "least_count" "least_count" sLCnt fLCnt fdLCnt
  bLCnt : Binds K fdLCnt ["shares"] []
  gLCnt : mg "least_count" = some (.ref fLCnt)
  fLWt : Addr
  fdLWt : FuncData
  FLWt : Fun K "least_weighted" "least_weighted" sLWt fLWt fdLWt
  bLWt : Binds K fdLWt ["weights"] []
  gLWt : mg "least_weighted" = some (.ref fLWt)
  fDrws : Addr
  fdDrws : FuncData
  FDrws : Fun K "_law_draws" "_law_draws" sDrws fDrws fdDrws
  bDrws : Binds K fdDrws ["_law_script", "_law_k"] []
  gDrws : mg "_law_draws" = some (.ref fDrws)
  fBelow : Addr
  fdBelow : FuncData
  FBelow : Fun K "_law_below" "_law_below" sBelow fBelow fdBelow
  bBelow : Binds K fdBelow ["_law_draws_here", "_law_many"] []
  gBelow : mg "_law_below" = some (.ref fBelow)
  fPickD : Addr
  fdPickD : FuncData
  FPickD : Fun K "_law_pick" "_law_pick" sPickD fPickD fdPickD
  bPickD : Binds K fdPickD ["_law_draws_here", "_law_items"] []
  gPickD : mg "_law_pick" = some (.ref fPickD)
  fCommon : Addr
  fdCommon : FuncData
  FCommon : Fun K "_law_common" "_law_common" sCommon fCommon fdCommon
  bCommon : Binds K fdCommon ["_law_one", "_law_other"] []
  gCommon : mg "_law_common" = some (.ref fCommon)
  fCut : Addr
  fdCut : FuncData
  FCut : Fun K "_law_cut" "_law_cut" sCut fCut fdCut
  bCut : Binds K fdCut ["_law_top", "_law_bottom"] []
  gCut : mg "_law_cut" = some (.ref fCut)
  fAdded : Addr
  fdAdded : FuncData
  FAdded : Fun K "_law_added" "_law_added" sAdded fAdded fdAdded
  bAdded : Binds K fdAdded ["_law_one", "_law_other"] []
  gAdded : mg "_law_added" = some (.ref fAdded)
  fWts : Addr
  fdWts : FuncData
  FWts : Fun K "_law_weights" "_law_weights" sWts fWts fdWts
  bWts : Binds K fdWts ["_law_draws_here", "_law_least_here", "_law_most", "_law_top"] []
  gWts : mg "_law_weights" = some (.ref fWts)
  fShs : Addr
  fdShs : FuncData
  FShs : Fun K "_law_shares" "_law_shares" sShs fShs fdShs
  bShs : Binds K fdShs ["_law_weights_here"] []
  gShs : mg "_law_shares" = some (.ref fShs)
  fLeast34 : Addr
  fdLeast34 : FuncData
  FLeast34 : Fun K "_law_least" "_law_least" sLeast34 fLeast34 fdLeast34
  bLeast34 : Binds K fdLeast34 ["_law_weights_here"] []
  gLeast34 : mg "_law_least" = some (.ref fLeast34)
  n_abs : mg "abs" = none
  n_int : mg "int" = none
  n_len : mg "len" = none
  n_max : mg "max" = none
  n_min : mg "min" = none
  n_range : mg "range" = none
  n_repr : mg "repr" = none
  n_set : mg "set" = none
  n_sorted : mg "sorted" = none
  n_sum : mg "sum" = none
  n_tuple : mg "tuple" = none
/-! ### greatest_divisor, least_multiple (of great numbers, too) -/
def spGcd : Sp := fun vs H Q _ => ∃ a b : Nat, vs = [.int a, .int b] ∧ Q (.int (Nat.gcd a b : Nat)) H
def spLcm : Sp := fun vs H Q _ => ∃ a b : Nat, vs = [.int a, .int b] ∧ 0 < b ∧ b < 2 ^ 8000 ∧ a < 2 ^ 500000 ∧ Q (.int (stepL a b : Nat)) H
def WGcd (a b : Nat) (H : Hp) (m : Nat) (σ : L2.St) (H' : Hp) : Prop := ∃ x y : Nat, σ = [some (.int x), some (.int y)] ∧ H' = H ∧ Nat.gcd x y = Nat.gcd a b ∧ m = y
theorem gcd_turn (x y : Nat) : Nat.gcd y (x % y) = Nat.gcd x y := by
  rw [Nat.gcd_comm x y, Nat.gcd_rec y x, Nat.gcd_comm]
section
variable {P : Program} {w : World} {K : PySem.W.Frag} {mg : Str → Option Value} {base : Heap}
theorem ok_gcd (T : Txt K mg) {j : Nat} : FnOk P w K mg base CX0 (j + 1) T.fGcd T.fdGcd ["a", "b"] spGcd := by
  refine T.FGcd.ok scGcd (fun vs H Q E h => ?_) (fun cdv A outer s H vs Q E hr h => ?_)
  · obtain ⟨a, b, rfl, _⟩ := h
    rfl
  · obtain ⟨a, b, rfl, q⟩ := h
    refine ⟨_, pss_cons (ps_while PassesOwn.never (pt_cmpR op_gt (pv 1) pe_int (nomark _)) (pss_one (ps_par (i := 0) (j := 1) rfl scGcd.nd rfl rfl (by decide) rfl rfl (pa_cons (pv 1) (pa_cons (pe_op op_mod (pv 0) (pv 1)) pa_nil)) (by rfl))))
      (pss_one (ps_ret (pv 0))), ?_⟩
    refine ⟨WGcd a b H, ⟨b, a, b, rfl, rfl, rfl, rfl⟩, ?_⟩
    rintro m σ H' ⟨x, y, rfl, rfl, hg, rfl⟩
    refine ⟨_, rfl, _, _, rfl, rfl, _, rfl, ite2 (fun h1 => ?_) (fun h1 => ?_)⟩
    · have h0 : (0 : Int) < (m : Int) := of_decide_eq_true h1
      refine ⟨WGcd a b H' (x % m), fun σ' H'' hw => ⟨x % m, Nat.mod_lt _ (by omega), hw⟩, ?_⟩
      refine ⟨_, rfl, _, rfl, _, rfl, _, _, rfl, rfl, h0, _, _, rfl, m, x % m, ?_, rfl, by rw [gcd_turn]; exact hg, rfl⟩
      rw [Int.natCast_emod]
      rfl
    · have h0 : m = 0 := by
        have h2 : ¬ (0 : Int) < (m : Int) := fun z => h1 (decide_eq_true z)
        omega
      subst h0
      rw [Nat.gcd_zero_right] at hg
      rw [← hg] at q
      exact ⟨_, rfl, q⟩
theorem ok_lcm (T : Txt K mg) {j : Nat} : FnOk P w K mg base CX0 (j + 2) T.fLcm T.fdLcm ["a", "b"] spLcm := by
  refine T.FLcm.ok scLcm (fun vs H Q E h => ?_) (fun cdv A outer s H vs Q E hr h => ?_)
  · obtain ⟨a, b, rfl, _⟩ := h
    rfl
  · obtain ⟨a, b, rfl, hb, hb2, ha2, q⟩ := h
    refine ⟨_, pss_cons (ps_set (i := 2) scLcm.nd rfl (.inl rfl) (pe_call (ok_gcd T) hr (by rfl) T.gGcd T.FGcd.kp T.bGcd .nil pass0 (pa_cons (pv 0) (pa_cons (pv 1) pa_nil))))
      (pss_cons (ps_if (pt_cmpR op_eq (pv 2) pe_int (nomark _)) (pss_one (ps_ret pe_int)) pss_nil)
      (pss_one (ps_ret (pe_op op_mulW (pe_op op_fdivW (pv 0) (pv 2)) (pv 1))))), ?_⟩
    have g0 : 0 < Nat.gcd a b := Nat.gcd_pos_of_pos_right a hb
    have g1 : Nat.gcd a b ≤ b := Nat.gcd_le_right a hb
    refine ⟨_, rfl, _, rfl, a, b, rfl, ?_⟩
    refine ⟨_, rfl, rfl, _, rfl, ite2 (fun h1 => ?_) (fun h1 => ?_)⟩
    · have h2 := V.int.inj (of_decide_eq_true h1)
      omega
    · refine ⟨_, rfl, _, rfl, _, _, rfl, rfl, wide_div (b := 8000) (Int.ofNat_lt.mpr g0) (by rw [Int.natAbs_natCast]; exact Nat.lt_of_le_of_lt g1 hb2) (by decide) (by decide), _, rfl, _, _, rfl, rfl, ?_, ?_⟩
      · rw [← Int.natCast_ediv]
        exact wide_mul (a := 500000) (b := 8000) (by rw [Int.natAbs_natCast]; exact Nat.lt_of_le_of_lt (Nat.div_le_self _ _) ha2) (by rw [Int.natAbs_natCast]; exact hb2) (by decide) (by decide) (by decide)
      unfold stepL at q
      rw [Int.natCast_mul, Int.natCast_ediv] at q
      exact q
end
/-! ### outside -/
def subL (f : Nat → Bool) (n : Nat) : List Int := ((List.range n).filter f).map fun (i : Nat) => (i : Int)
theorem subL_succ (f : Nat → Bool) (n : Nat) : subL f (n + 1) = subL f n ++ (if f n then [(n : Int)] else []) := by
  unfold subL
  rw [List.range_succ, List.filter_append, List.map_append]
  congr 1
  cases h : f n with
  | true => rw [List.filter_cons_of_pos h]; rfl
  | false => rw [List.filter_cons_of_neg (by rw [h]; decide)]; rfl
theorem subL_congr {f g : Nat → Bool} {n : Nat} (h : ∀ i, i < n → f i = g i) : subL f n = subL g n := by
  unfold subL
  rw [List.filter_congr fun i hi => h i (List.mem_range.mp hi)]
theorem mem_subL {f : Nat → Bool} {n i : Nat} : (i : Int) ∈ subL f n ↔ i < n ∧ f i = true := by
  unfold subL
  rw [List.mem_map]
  constructor
  · rintro ⟨k, hk, e⟩
    have e' : k = i := by omega
    subst e'
    rw [List.mem_filter, List.mem_range] at hk
    exact hk
  · rintro ⟨h1, h2⟩
    exact ⟨i, List.mem_filter.mpr ⟨List.mem_range.mpr h1, h2⟩, rfl⟩
theorem subL_len (f : Nat → Bool) (n : Nat) : (subL f n).length ≤ n := by
  unfold subL
  rw [List.length_map]
  exact Nat.le_trans (List.length_filter_le _ _) (Nat.le_of_eq List.length_range)
theorem subL_lt {f : Nat → Bool} {n : Nat} : ∀ x ∈ subL f n, 0 ≤ x ∧ x < n := by
  intro x hx
  unfold subL at hx
  obtain ⟨k, hk, e⟩ := List.mem_map.mp hx
  have h1 := List.mem_range.mp (List.mem_filter.mp hk).1
  omega
/-- the other servers -/
def outL (n : Nat) (ns : List Int) : List Int := subL (fun i => !decide ((i : Int) ∈ ns)) n
theorem outL_sub (f : Nat → Bool) (n : Nat) : outL n (subL f n) = subL (fun i => !f i) n := by
  refine subL_congr fun i hi => ?_
  congr 1
  cases h : f i with
  | true => exact decide_eq_true (mem_subL.mpr ⟨hi, h⟩)
  | false => exact decide_eq_false fun z => by rw [(mem_subL.mp z).2] at h; cases h
theorem outL_out (f : Nat → Bool) (n : Nat) : outL n (outL n (subL f n)) = subL f n := by
  rw [outL_sub, outL_sub]
  exact subL_congr fun i _ => by cases f i <;> rfl
def spOut (K : PySem.W.Frag) : Sp := fun vs H Q _ => ∃ (n : Nat) (a : Addr) (ns : List Int), vs = [.int n, .ref a] ∧ SqT K H a (ns.map V.int) ∧ n ≤ 1000 ∧ ns.length ≤ 1000 ∧
  ∀ H' p, Same H H' → H p = none → H' p = some (.tup ((outL n ns).map V.int)) → Q (.ref p) H'
section
variable {P : Program} {w : World} {K : PySem.W.Frag} {mg : Str → Option Value} {base : Heap}
theorem ok_out (T : Txt K mg) {j : Nat} : FnOk P w K mg base CX0 (j + 1) T.fOut T.fdOut ["n", "members"] (spOut K) := by
  refine T.FOut.ok scOut (fun vs H Q E h => ?_) (fun cdv A outer s H vs Q E hr h => ?_)
  · obtain ⟨n, a, ns, rfl, _⟩ := h
    rfl
  · obtain ⟨n, a, ns, rfl, hS, hn, hl, q⟩ := h
    refine ⟨_, pss_cons (ps_set (i := 2) scOut.nd rfl (.inl rfl) (pe_callTy (cr_setT rfl) (by rfl) T.n_set (by decide +kernel) (pa_cons (pv 1) pa_nil)))
      (pss_cons (ps_set (i := 3) scOut.nd rfl (.inl rfl) (pe_lst pa_nil))
      (pss_cons (ps_for PassesOwn.never rfl (pi_range1 (by rfl) T.n_range (pa_cons (pv 0) pa_nil)) (pg_name (i := 4) scOut.nd rfl (.inl rfl))
        (pss_one (ps_if (pt_cmpR or_snotin (pv 4) (pv 2) (by rfl)) (pss_one (ps_expr (pe_bm PySem.F.plainAttrs_list PySem.F.slot_list_append PySem.F.type_list_append mt_append (pv 3) (pa_cons (pv 4) pa_nil)))) pss_nil)))
      (pss_one (ps_ret (pe_callTy call_tuple_of (by rfl) T.n_tuple (by decide +kernel) (pa_cons (pv 3) pa_nil)))))), ?_⟩
    refine ⟨.ref a, rfl, a, ns, rfl, hS, hl, fun t c nt => ?_⟩
    refine ⟨Nat.zero_le _, fun o no => ?_⟩
    have s1 := same_new (o := SetO w t (fun j => decide (j ∈ ns)) c) nt
    have fo : H o = none := s1.free no
    have nto : t ≠ o := ne_of_none upd_same no
    refine ⟨_, rfl, (n : Int), rfl, by omega, by omega, ?_⟩
    refine for_range (lo := 0) (n := (n : Int).toNat) (fun i σ H2 => ∃ v, σ = [some (.int n), some (.ref a), some (.ref t), some (.ref o), v] ∧ Same H H2 ∧ H2 t = some (SetO w t (fun j => decide (j ∈ ns)) c) ∧ H2 o = some (.lst ((subL (fun i => !decide ((i : Int) ∈ ns)) i).map V.int))) ?_ ?_ ?_
    · exact ⟨none, rfl, s1.trans (same_new no), by rw [upd_ne nto]; exact upd_same, upd_same⟩
    · rintro i σ H2 hi ⟨v, rfl, s2, ht, ho⟩
      rw [Int.zero_add]
      refine ⟨_, rfl, _, rfl, (i : Int), t, _, c, rfl, rfl, ht, _, rfl, ?_⟩
      by_cases hm : (i : Int) ∈ ns
      · rw [decide_eq_true hm]
        refine iteF ⟨_, rfl, s2, ht, ?_⟩
        rw [subL_succ, if_neg (by rw [decide_eq_true hm]; decide), List.append_nil]
        exact ho
      · rw [decide_eq_false hm]
        refine iteT ?_
        refine ⟨.ref o, rfl, .inl ⟨rfl, _, SqL.of ho⟩, _, rfl, o, _, _, rfl, rfl, ho, ?_, ?_⟩
        · have h8 := subL_len (fun i => !decide ((i : Int) ∈ ns)) i
          rw [List.length_map]
          exact small1000 (by omega)
        · refine ⟨_, rfl, keep_upd s2 fo, by rw [upd_ne nto]; exact ht, ?_⟩
          rw [upd_same, subL_succ, if_pos (by rw [decide_eq_false hm]; rfl), List.map_append]
          rfl
    · rintro σ H2 ⟨v, rfl, s2, ht, ho⟩
      rw [Int.toNat_natCast] at ho
      exact ⟨.ref o, rfl, o, _, rfl, .inl ⟨SqL.of ho, fun p np => q _ p (s2.trans (same_new np)) (s2.free np) upd_same⟩⟩
end
/-! ### tuples and lists of servers -/
def setV (ms : List Nat) : List V := ms.map fun (m : Nat) => V.int (m : Int)
theorem setV_app (a b : List Nat) : setV (a ++ b) = setV a ++ setV b := List.map_append
theorem setV_at {ms : List Nat} {i m : Nat} (h : ms[i]? = some m) : (setV ms)[i]? = some (V.int (m : Int)) := by
  unfold setV
  rw [List.getElem?_map, h]
  rfl
theorem setV_len (ms : List Nat) : (setV ms).length = ms.length := List.length_map _
theorem setV_range (n : Nat) : rgV 0 (n : Int) = setV (List.range' 0 n) := by
  unfold setV
  have e : ((n : Int) - 0).toNat = n := by omega
  unfold rgV
  rw [e, List.range_eq_range']
  refine List.map_congr_left fun i _ => ?_
  rw [Int.zero_add]
theorem seq_at {k n : Nat} (h : k < n) : seqIndex? (k : Int) n = some k := by
  unfold seqIndex?
  simp only [show ¬ ((k : Int) < 0) by omega, if_false]
  rw [if_pos]
  · rw [Int.toNat_natCast]
  · rw [Bool.and_eq_true]
    exact ⟨decide_eq_true (by omega), decide_eq_true (by omega)⟩
theorem SqL.is {K : PySem.W.Frag} {H : Hp} {a : Addr} {xs ys : List V} (h : SqL K H a xs) (e : xs = ys) : SqL K H a ys := e ▸ h
theorem setV_erase : ∀ (l : List Nat) (k : Nat), (setV l).eraseIdx k = setV (l.eraseIdx k)
  | [], _ => rfl
  | _ :: _, 0 => rfl
  | a :: r, k + 1 => congrArg (V.int (a : Int) :: ·) (setV_erase r k)
theorem setV_ints (ms : List Nat) : setV ms = (ms.map fun (m : Nat) => (m : Int)).map V.int := by
  unfold setV
  rw [List.map_map]
  rfl
theorem ints_back {ns : List Int} {ms : List Nat} (h : ns.Perm (ms.map fun (m : Nat) => (m : Int))) : ∃ ks : List Nat, ns = (ks.map fun (m : Nat) => (m : Int)) ∧ ks.Perm ms := by
  have e : ∀ x ∈ ns, ((x.toNat : Nat) : Int) = x := fun x hx => by
    obtain ⟨m, _, rfl⟩ := List.mem_map.mp (h.mem_iff.mp hx)
    simp
  refine ⟨ns.map Int.toNat, ?_, ?_⟩
  · rw [List.map_map]
    conv => lhs; rw [← List.map_id ns]
    exact List.map_congr_left fun x hx => (e x hx).symm
  · have h2 := h.map Int.toNat
    rw [List.map_map] at h2
    have e2 : (ms.map (Int.toNat ∘ fun (m : Nat) => (m : Int))) = ms := by
      conv => rhs; rw [← List.map_id ms]
      exact List.map_congr_left fun x _ => by simp
    rw [e2] at h2
    exact h2
theorem le_back {ks : List Nat} (h : (ks.map fun (m : Nat) => (m : Int)).Pairwise (· ≤ ·)) : ks.Pairwise (· ≤ ·) := by
  rw [List.pairwise_map] at h
  exact h.imp fun z => by omega
theorem lt_of_le {ks : List Nat} (h : ks.Pairwise (· ≤ ·)) (hn : ks.Nodup) : Asc ks := (h.and hn).imp fun ⟨a, b⟩ => by omega
theorem inV_ints (x : Int) : ∀ ns : List Int, inV (V.int x) (ns.map V.int) = decide (x ∈ ns)
  | [] => rfl
  | y :: r => by
    show ((y == x) || inV (V.int x) (r.map V.int)) = _
    rw [inV_ints x r]
    by_cases h : y = x
    · subst h
      rw [beq_self_eq_true, decide_eq_true List.mem_cons_self]
      rfl
    · rw [show (y == x) = false from beq_eq_false_iff_ne.mpr h, Bool.false_or]
      by_cases g : x ∈ r
      · rw [decide_eq_true g, decide_eq_true (List.mem_cons_of_mem _ g)]
      · rw [decide_eq_false g, decide_eq_false fun z => ?_]
        rcases List.mem_cons.mp z with z | z
        · exact h z.symm
        · exact g z
theorem flat_ints : ∀ ns : List Int, (ns.map V.int).all flatV = true
  | [] => rfl
  | _ :: r => flat_ints r
theorem setV_flat (ms : List Nat) : (setV ms).all flatV = true := by
  rw [setV_ints]
  exact flat_ints _
theorem inV_setV (x : Nat) (ms : List Nat) : inV (.int (x : Int)) (setV ms) = decide (x ∈ ms) := by
  rw [setV_ints, inV_ints]
  refine decide_eq_decide.mpr ⟨fun h => ?_, fun h => List.mem_map.mpr ⟨x, h, rfl⟩⟩
  obtain ⟨y, hy, e⟩ := List.mem_map.mp h
  have : y = x := by omega
  rw [← this]
  exact hy
theorem setV_mem {ms : List Nat} {v : V} (h : v ∈ setV ms) : ∃ m, m ∈ ms ∧ v = .int (m : Int) := by
  obtain ⟨m, hm, e⟩ := List.mem_map.mp h
  exact ⟨m, hm, e.symm⟩
theorem setV_get {ms : List Nat} {i : Nat} {v : V} (h : (setV ms)[i]? = some v) : ∃ m, ms[i]? = some m ∧ v = .int (m : Int) := by
  unfold setV at h
  rw [List.getElem?_map] at h
  cases e : ms[i]? with
  | none =>
    rw [e] at h
    cases h
  | some m =>
    rw [e] at h
    exact ⟨m, rfl, (Option.some.inj h).symm⟩
theorem range'_snoc (n : Nat) : List.range' 0 (n + 1) = List.range' 0 n ++ [n] := by
  rw [← List.range_eq_range', ← List.range_eq_range', List.range_succ]
theorem fr_step (f : Nat → Bool) (n : Nat) : setV ((List.range' 0 (n + 1)).filter f) = setV ((List.range' 0 n).filter f) ++ if f n = true then [V.int (n : Int)] else [] := by
  rw [range'_snoc, List.filter_append, setV_app]
  congr 1
  cases h : f n with
  | true => rw [List.filter_cons_of_pos h]; rfl
  | false => rw [List.filter_cons_of_neg (by rw [h]; decide)]; rfl
/-- what an error of the class CN with the field f leaves behind -/
def Raised (f : Str) (CN : Addr) (v : V) (H : Hp) (E : XK) : Prop := ∀ H' d, Same H H' → H' d = some (.xd [(f, v)]) → H d = none → E (.ref CN) (some d) H'
theorem Raised.on {f : Str} {CN : Addr} {v : V} {H H1 : Hp} {E : XK} (s : Same H H1) (h : Raised f CN v H E) : Raised f CN v H1 E := fun H' d s2 e n => h H' d (s.trans s2) e (s.free n)
theorem cut_set (ms : List Nat) (lo hi : Option Int) : ∃ ks : List Nat, cutV (setV ms) lo hi = setV ks ∧ (∀ x ∈ ks, x ∈ ms) ∧ ks.length ≤ ms.length ∧ ks.Sublist ms := by
  unfold cutV setV
  rw [← List.map_drop, ← List.map_take]
  refine ⟨_, rfl, fun x hx => List.mem_of_mem_drop (List.mem_of_mem_take hx), ?_, (List.take_sublist _ _).trans (List.drop_sublist _ _)⟩
  rw [List.length_take, List.length_drop]
  omega
def natOf : V → Nat
  | .int i => i.toNat
  | _ => 0
theorem perm_setV {ys : List V} {ms : List Nat} (h : ys.Perm (setV ms)) : ∃ ks : List Nat, ys = setV ks ∧ ks.Perm ms := by
  have e : ∀ y ∈ ys, V.int ((natOf y : Nat) : Int) = y := fun y hy => by
    obtain ⟨m, _, rfl⟩ := setV_mem (h.mem_iff.mp hy)
    show V.int (((m : Int).toNat : Nat) : Int) = _
    rw [Int.toNat_natCast]
  refine ⟨ys.map natOf, ?_, ?_⟩
  · unfold setV
    rw [List.map_map]
    conv => lhs; rw [← List.map_id ys]
    exact List.map_congr_left fun y hy => (e y hy).symm
  · have h2 := h.map natOf
    unfold setV at h2
    rw [List.map_map] at h2
    have e2 : (ms.map (natOf ∘ fun (m : Nat) => V.int (m : Int))) = ms := by
      conv => rhs; rw [← List.map_id ms]
      refine List.map_congr_left fun x _ => ?_
      show (x : Int).toNat = x
      rw [Int.toNat_natCast]
    rw [e2] at h2
    exact h2
theorem dp_set {K : PySem.W.Frag} {H : Hp} : ∀ ms : List Nat, DpAll K H (setV ms) (natD ms)
  | [] => .nil
  | m :: r => .cons (.int (m : Int)) (dp_set r)
theorem but_free {p q : Addr} {H H' : Hp} (s : But p H H') (h : H' q = none) (n : q ≠ p) : H q = none := by
  cases e : H q with
  | none => rfl
  | some o =>
    rw [s _ _ n e] at h
    cases h
theorem but_new {p q : Addr} {H H1 : Hp} {o : HO} (s : But p H H1) (h : H q = none) : But p H (L2.upd H1 q o) := fun b x n e => by
  rw [upd_ne (ne_of_none e h)]
  exact s b x n e
theorem erase_perm {α : Type} : ∀ (l : List α) (k : Nat) (x : α), l[k]? = some x → (x :: l.eraseIdx k).Perm l
  | [], _, _, h => by cases h
  | a :: r, 0, x, h => by
    obtain rfl : a = x := Option.some.inj h
    exact List.Perm.refl _
  | a :: r, k + 1, x, h => (List.Perm.swap a x _).trans ((erase_perm r k x h).cons a)
theorem same_hide {p : Addr} {H H' : Hp} (s : Same H H') (n : H p = none) : Same H (hide p H') := fun b o e => by
  rw [hide_ne (ne_of_none e n)]
  exact s b o e
theorem cut_take (fl : List Nat) (w : Nat) : cutV (setV fl) none (some (w : Int)) = setV (fl.take w) := by
  unfold cutV
  have e0 : HT.sIx (setV fl).length 0 none = 0 := rfl
  have e1 : HT.sIx (setV fl).length (setV fl).length (some (w : Int)) = min w fl.length := by
    rw [setV_len]
    exact HT.sIx_nat _ _ _
  rw [e0, e1, List.drop_zero, Nat.sub_zero]
  unfold setV
  rw [← List.map_take]
  congr 1
  rw [List.take_eq_take_iff]
  omega
theorem SqT_updL {K : PySem.W.Frag} {H : Hp} {a D : Addr} {xs ys : List V} {o : HO} (h : SqT K H a xs) (hD : H D = some (.lst ys)) : SqT K (upd H D o) a xs := by
  rcases h with (h | ⟨o, h⟩) | h
  · exact .inl (.inl (by rw [upd_ne (fun c => by rw [c, hD] at h; cases h)]; exact h))
  · exact .inl (.inr ⟨o, by rw [upd_ne (fun c => by rw [c, hD] at h; cases h)]; exact h⟩)
  · exact .inr h
/-- a pair of a tuple of servers and a number -/
def PairAt (H0 H : Hp) (u : Addr) (ms : List Nat) (r : Nat) : Prop := H0 u = none ∧ ∃ t, H0 t = none ∧ H u = some (.tup [.ref t, .int (r : Int)]) ∧ H t = some (.tup (setV ms))
theorem PairAt.back {H0 H1 H : Hp} {u : Addr} {ms : List Nat} {r : Nat} (s : Same H0 H1) (h : PairAt H1 H u ms r) : PairAt H0 H u ms r := by
  obtain ⟨a, t, b, c⟩ := h
  exact ⟨s.free a, t, s.free b, c⟩
theorem erase_setV : ∀ (l : List Nat) (k : Nat), (setV l).eraseIdx k = setV (l.eraseIdx k)
  | [], _ => rfl
  | _ :: _, 0 => rfl
  | a :: r, k + 1 => congrArg (V.int (a : Int) :: ·) (erase_setV r k)
/-! ### lists of tuples of servers -/
def RowsL (K : PySem.W.Frag) (H : Hp) (ts : List V) (rows : List (List Nat)) : Prop := PySem.Paired (fun v ms => ∃ t, v = V.ref t ∧ SqT K H t (setV ms)) ts rows
theorem RowsL.same {K : PySem.W.Frag} {H H' : Hp} {ts : List V} {rows : List (List Nat)} (s : Same H H') (h : RowsL K H ts rows) : RowsL K H' ts rows := PySem.Paired.mono (fun v ms ⟨t, e, z⟩ => ⟨t, e, Same.seqT s z⟩) h
theorem RowsL.app {K : PySem.W.Frag} {H : Hp} {xs ys : List V} {L M : List (List Nat)} (h : RowsL K H xs L) (g : RowsL K H ys M) : RowsL K H (xs ++ ys) (L ++ M) := by
  unfold RowsL at *
  induction h with
  | nil => exact g
  | cons a _ ih => exact .cons a ih
theorem RowsL.len {K : PySem.W.Frag} {H : Hp} {ts : List V} {rows : List (List Nat)} (h : RowsL K H ts rows) : ts.length = rows.length := by
  unfold RowsL at h
  induction h with
  | nil => rfl
  | cons _ _ ih => exact congrArg (· + 1) ih
theorem RowsL.at {K : PySem.W.Frag} {H : Hp} {ts : List V} {rows : List (List Nat)} (h : RowsL K H ts rows) : ∀ {i : Nat} {v : V}, ts[i]? = some v → ∃ ms, rows[i]? = some ms ∧ ∃ t, v = V.ref t ∧ SqT K H t (setV ms) := by
  unfold RowsL at h
  induction h with
  | nil =>
    intro i v z
    cases z
  | cons a _ ih =>
    intro i v z
    cases i with
    | zero =>
      obtain rfl := Option.some.inj z
      exact ⟨_, rfl, a⟩
    | succ i => exact ih z
theorem RowsL.mem {K : PySem.W.Frag} {H : Hp} {ts : List V} {rows : List (List Nat)} (h : RowsL K H ts rows) {v : V} (hv : v ∈ ts) : ∃ ms, ms ∈ rows ∧ ∃ t, v = V.ref t ∧ SqT K H t (setV ms) := by
  obtain ⟨i, hi⟩ := List.getElem?_of_mem hv
  obtain ⟨ms, h1, h2⟩ := h.at hi
  exact ⟨ms, List.mem_of_getElem? h1, h2⟩
def tupD (ms : List Nat) : PyData := .tuple (natD ms)
theorem natD_ints (ms : List Nat) : natD ms = (intL ms).map PyData.int := by
  unfold natD
  rw [List.map_map]
  rfl
theorem dp_tup {K : PySem.W.Frag} {H : Hp} {t : Addr} {ms : List Nat} (h : SqT K H t (setV ms)) : Dp K H (.ref t) (tupD ms) := .tup h (dp_set ms)
theorem RowsL.dp {K : PySem.W.Frag} {H : Hp} {ts : List V} {rows : List (List Nat)} (h : RowsL K H ts rows) : DpAll K H ts (rows.map tupD) := by
  unfold RowsL at h
  induction h with
  | nil => exact .nil
  | cons a _ ih =>
    obtain ⟨t, rfl, ht⟩ := a
    exact .cons (dp_tup ht) ih
theorem RowsL.pairs {K : PySem.W.Frag} {H : Hp} {ts : List V} {rows : List (List Nat)} (h : RowsL K H ts rows) : ∃ bs : List (V × PyData), bs.map (·.1) = ts ∧ bs.map (·.2) = rows.map tupD ∧ ∀ b ∈ bs, Dp K H b.1 b.2 := by
  unfold RowsL at h
  induction h with
  | nil => exact ⟨[], rfl, rfl, fun _ hb => absurd hb List.not_mem_nil⟩
  | @cons v ms _ _ a _ ih =>
    obtain ⟨t, rfl, ht⟩ := a
    obtain ⟨bs, e1, e2, e3⟩ := ih
    refine ⟨(.ref t, tupD ms) :: bs, by rw [List.map_cons, e1], by rw [List.map_cons, e2]; rfl, fun b hb => ?_⟩
    rcases List.mem_cons.mp hb with rfl | hb
    · exact dp_tup ht
    · exact e3 b hb
theorem alike_tup (xs ys : List Nat) : PySem.W.alike (tupD xs) (tupD ys) = true := by
  unfold tupD
  rw [natD_ints, natD_ints]
  exact PySem.W.alike_ints _ _
theorem depth_tup (ms : List Nat) : (tupD ms).depth ≤ 20 := by
  unfold tupD
  rw [natD_ints]
  have : (PyData.tuple ((intL ms).map PyData.int)).depth = PyData.depthAll ((intL ms).map PyData.int) + 1 := rfl
  rw [this, PySem.W.depth_ints]
  decide
theorem dLe_tup {u v : V} {xs ys : List Nat} (h : LexLe xs ys) : dLe (u, tupD xs) (v, tupD ys) = true := by
  unfold tupD
  rw [natD_ints, natD_ints, dLe_ints, decide_eq_false h]
  rfl
theorem asc_pairs : ∀ {bs : List (V × PyData)} {rows : List (List Nat)}, bs.map (·.2) = rows.map tupD → rows.Pairwise LexLe → bs.Pairwise fun a b => dLe a b = true
  | [], _, _, _ => List.Pairwise.nil
  | _ :: _, [], e, _ => by cases e
  | (u, d) :: bs, ms :: rows, e, h => by
    obtain ⟨rfl, e2⟩ := List.cons.inj e
    obtain ⟨h1, h2⟩ := List.pairwise_cons.mp h
    refine List.pairwise_cons.mpr ⟨fun b hb => ?_, asc_pairs e2 h2⟩
    have hb2 : b.2 ∈ rows.map tupD := by
      rw [← e2]
      exact List.mem_map.mpr ⟨b, hb, rfl⟩
    obtain ⟨m2, hm2, eb⟩ := List.mem_map.mp hb2
    obtain ⟨bu, bd⟩ := b
    obtain rfl : tupD m2 = bd := eb
    exact dLe_tup (h1 m2 hm2)
/-- sorted of ascending rows -/
theorem sort_rows {K : PySem.W.Frag} {H : Hp} {a : Addr} {ts : List V} {rows : List (List Nat)} {Q : VK} (hL : SqL K H a ts) (r : RowsL K H ts rows) (asc : rows.Pairwise LexLe) (ne : ∀ ms ∈ rows, ms ≠ []) (q : ∀ p, H p = none → Q (.ref p) (upd H p (.lst ts))) : rSortD K [.ref a] H Q := by
  obtain ⟨bs, e1, e2, e3⟩ := r.pairs
  refine ⟨a, bs, rfl, by rw [e1]; exact hL, e3, ?_, ?_, fun b hb => ?_, fun p np => ?_⟩
  · rw [e2]
    intro d hd d' hd'
    obtain ⟨x, _, rfl⟩ := List.mem_map.mp hd
    obtain ⟨y, _, rfl⟩ := List.mem_map.mp hd'
    exact alike_tup x y
  · rw [e2]
    refine .inl fun d hd => ?_
    obtain ⟨ms, hm, rfl⟩ := List.mem_map.mp hd
    cases ms with
    | nil => exact absurd rfl (ne [] hm)
    | cons m r => exact ⟨_, _, rfl⟩
  · have hb2 : b.2 ∈ rows.map tupD := by
      rw [← e2]
      exact List.mem_map.mpr ⟨b, hb, rfl⟩
    obtain ⟨ms, _, e⟩ := List.mem_map.mp hb2
    rw [← e]
    exact depth_tup ms
  · rw [dsort_id (asc_pairs e2 asc), e1]
    exact q p np
theorem sh_rows {d : Nat} : ∀ {rows : List (List Nat)}, (∀ r ∈ rows, r.length ≤ d ∧ ∀ x ∈ r, x < 60) → ShAll 1 ((7 * d + 1) * rows.length) (rows.map tupD)
  | [], _ => ShAll.nil.mono (by decide) (Nat.zero_le _)
  | r :: rows, h => by
    obtain ⟨h1, h2⟩ := h r List.mem_cons_self
    have a := sh_nat (b := 6) (by decide) (by decide) (ms := r) fun x hx => by
      have := h2 x hx
      omega
    have b := Sh.tup a
    have m1 : (6 + 1) * r.length ≤ 7 * d := Nat.mul_le_mul_left 7 h1
    have c := ShAll.cons (b.mono (Nat.le_refl _) m1) (sh_rows fun r' hr => h r' (List.mem_cons_of_mem _ hr))
    refine c.mono (Nat.le_refl _) ?_
    show 7 * d + 1 + (7 * d + 1) * rows.length ≤ (7 * d + 1) * (rows.length + 1)
    rw [Nat.mul_succ]
    omega
theorem hide_upd {D : Addr} {H5 H6 : Hp} {o : HO} (s : Same H5 H6) : Same (hide D H5) (hide D (upd H6 D o)) := fun b x e => by
  by_cases h : b = D
  · unfold hide at e
    rw [if_pos h] at e
    cases e
  · rw [hide_ne h] at e ⊢
    rw [upd_ne h]
    exact s b x e
/-- one more row behind a list that is being made -/
theorem RowsL.grow {K : PySem.W.Frag} {D t : Addr} {H5 H6 : Hp} {ts : List V} {rows : List (List Nat)} {ms : List Nat} {o : HO} (s : Same H5 H6) (h : RowsL K (hide D H5) ts rows) (nt : t ≠ D) (ht : H6 t = some (.tup (setV ms))) : RowsL K (hide D (upd H6 D o)) (ts ++ [V.ref t]) (rows ++ [ms]) :=
  RowsL.app (h.same (hide_upd s)) (.cons ⟨t, rfl, SqT.of (by rw [hide_ne nt, upd_ne nt]; exact ht)⟩ .nil)
theorem RowsL.show {K : PySem.W.Frag} {D : Addr} {H : Hp} {ts : List V} {rows : List (List Nat)} (h : RowsL K (hide D H) ts rows) : RowsL K H ts rows := h.same (hide_same D H)
theorem range_rows {α : Type} (f : Nat → α) (z : Nat) : (List.range (z + 1)).map f = (List.range z).map f ++ [f z] := by
  rw [List.range_succ, List.map_append]
  rfl
/-! ### tables: tuples of tuples of servers -/
theorem paired_app {α β : Type} {R : α → β → Prop} {xs ys : List α} {L M : List β} (h : PySem.Paired R xs L) (g : PySem.Paired R ys M) : PySem.Paired R (xs ++ ys) (L ++ M) := by
  induction h with
  | nil => exact g
  | cons a _ ih => exact .cons a ih
/-- a tuple of tuples of servers -/
def TabAt (K : PySem.W.Frag) (H : Hp) (a : Addr) (rows : List (List Nat)) : Prop := ∃ ts : List V, SqT K H a ts ∧ PySem.Paired (fun v ms => ∃ t, v = V.ref t ∧ SqT K H t (setV ms)) ts rows
def stdRows (n d c : Nat) : List (List Nat) := (List.range c).map fun k => (path n d c k).1
theorem TabAt.same {K : PySem.W.Frag} {H H' : Hp} {a : Addr} {rows : List (List Nat)} (s : Same H H') (h : TabAt K H a rows) : TabAt K H' a rows := by
  obtain ⟨ts, h1, h2⟩ := h
  exact ⟨ts, Same.seqT s h1, PySem.Paired.mono (fun v ms ⟨t, e, z⟩ => ⟨t, e, Same.seqT s z⟩) h2⟩
/-! ### all sets of a size among ascending servers -/
/-- pairs of a tuple of servers and a number -/
theorem RowsL.updD {K : PySem.W.Frag} {H : Hp} {D : Addr} {ts ys : List V} {rows : List (List Nat)} {o : HO} (h : RowsL K H ts rows) (hD : H D = some (.lst ys)) : RowsL K (upd H D o) ts rows := PySem.Paired.mono (fun v ms ⟨t, e, z⟩ => ⟨t, e, SqT_updL z hD⟩) h
def BegL (K : PySem.W.Frag) (H : Hp) (us : List V) (bs : List (List Nat × Nat)) : Prop := PySem.Paired (fun v (b : List Nat × Nat) => ∃ u t, v = V.ref u ∧ SqT K H u [.ref t, .int (b.2 : Int)] ∧ SqT K H t (setV b.1)) us bs
theorem BegL.same {K : PySem.W.Frag} {H H' : Hp} {us : List V} {bs : List (List Nat × Nat)} (s : Same H H') (h : BegL K H us bs) : BegL K H' us bs := PySem.Paired.mono (fun v b ⟨u, t, e, z1, z2⟩ => ⟨u, t, e, Same.seqT s z1, Same.seqT s z2⟩) h
theorem BegL.updL {K : PySem.W.Frag} {H : Hp} {D : Addr} {us ys : List V} {bs : List (List Nat × Nat)} {o : HO} (h : BegL K H us bs) (hD : H D = some (.lst ys)) : BegL K (upd H D o) us bs := PySem.Paired.mono (fun v b ⟨u, t, e, z1, z2⟩ => ⟨u, t, e, SqT_updL z1 hD, SqT_updL z2 hD⟩) h
theorem BegL.app {K : PySem.W.Frag} {H : Hp} {us vs : List V} {bs cs : List (List Nat × Nat)} (h : BegL K H us bs) (k : BegL K H vs cs) : BegL K H (us ++ vs) (bs ++ cs) := paired_app h k
theorem BegL.len {K : PySem.W.Frag} {H : Hp} {us : List V} {bs : List (List Nat × Nat)} (h : BegL K H us bs) : us.length = bs.length := PySem.Paired.length h
theorem paired_get {α β : Type} {R : α → β → Prop} {xs : List α} {ys : List β} (h : PySem.Paired R xs ys) : ∀ {i : Nat} {x : α}, xs[i]? = some x → ∃ y, ys[i]? = some y ∧ R x y := by
  induction h with
  | nil =>
    intro i x z
    cases z
  | cons a _ ih =>
    intro i x z
    cases i with
    | zero =>
      obtain rfl := Option.some.inj z
      exact ⟨_, rfl, a⟩
    | succ i => exact ih z
theorem rgc_down (k : Nat) (h : k < 2 ^ 62) : RgC (k : Int) 0 (-1) k := by
  have := RgC.neg (i := (k : Int)) (j := 0) (by omega) (by omega) (by decide) (by decide)
  rw [Int.sub_zero, Int.toNat_natCast] at this
  exact this
/-! ### sets_among -/
def spAmong (K : PySem.W.Frag) : Sp := fun vs H Q _ => ∃ (a : Addr) (ls : List Nat) (k : Nat), vs = [.ref a, .int k] ∧ SqT K H a (setV ls) ∧ ls.length ≤ 60 ∧ k ≤ 60 ∧ (combs ls k).length ≤ 100000 ∧
  ∀ H' p ts, Same H H' → H p = none → H' p = some (.lst ts) → RowsL K H' ts (combs ls k) → Q (.ref p) H'
section
variable {P : Program} {w : World} {K : PySem.W.Frag} {mg : Str → Option Value} {base : Heap}
theorem ok_among (T : Txt K mg) {j : Nat} : FnOk P w K mg base CX0 (j + 1) T.fAmong T.fdAmong ["servers", "size"] (spAmong K) := by
  refine T.FAmong.ok scAmong (fun vs H Q E h => ?_) (fun cdv A outer s H vs Q E hr h => ?_)
  · obtain ⟨a, ls, k, rfl, _⟩ := h
    rfl
  · obtain ⟨a, ls, k, rfl, hA, hl, hk, hb, q⟩ := h
    have hb1 : ∀ t, t ≤ k → (begB ls k t).length ≤ 100001 := fun t ht => by
      have := beg_len ls k t ht
      omega
    refine ⟨_, pss_cons (ps_set (i := 2) scAmong.nd rfl (.inl rfl) (pe_lst (pa_cons (pe_tup (pa_cons (pe_tup pa_nil) (pa_cons pe_int pa_nil))) pa_nil))) (pss_cons (ps_for PassesOwn.never rfl (pi_range3 (by rfl) T.n_range (pa_cons (pv 1) (pa_cons pe_int (pa_cons (pe_un un_neg pe_int) pa_nil)))) (pg_name (i := 3) scAmong.nd rfl (.inl rfl)) (pss_cons (ps_set (i := 4) scAmong.nd rfl (.inl rfl) (pe_lst pa_nil)) (pss_cons (ps_for PassesOwn.never rfl (pi_list (pv 2)) (pg_tup rfl (pgs_cons (pg_name (i := 5) scAmong.nd rfl (.inl rfl)) (pgs_cons (pg_name (i := 6) scAmong.nd rfl (.inl rfl)) pgs_nil))) (pss_one (ps_for PassesOwn.never rfl (pi_range2 (by rfl) T.n_range (pa_cons (pv 6) (pa_cons (pe_op op_add (pe_op op_sub (pe_callB (call_lenK K) (by rfl) T.n_len PySem.boot_len (pa_cons (pv 0) pa_nil)) (pv 3)) pe_int) pa_nil))) (pg_name (i := 7) scAmong.nd rfl (.inl rfl)) (pss_one (ps_expr (pe_bm PySem.F.plainAttrs_list PySem.F.slot_list_append PySem.F.type_list_append mt_append (pv 4) (pa_cons (pe_tup (pa_cons (pe_op (op_catS K) (pv 5) (pe_tup (pa_cons (pe_ix (ix_tupK K) (pv 0) (pv 7) (fun _ _ => rfl)) pa_nil))) (pa_cons (pe_op op_add (pv 7) pe_int) pa_nil))) pa_nil))))))) (pss_one (ps_set (i := 2) scAmong.nd rfl (.inl rfl) (pv 4)))))) (pss_one (ps_ret (pe_lc (own := [("members", 5), ("start", 6)]) (g := (gTup K 2 (gCons (gName 5) (gCons (gName 6) gNil)))) (tt := tYes) rfl scAmong.nd (pi_list (pv 2)) (blkOk_by (own := [("members", 5), ("start", 6)]) (N := NAmong) (sc := defScope sAmong) (by decide +kernel)) (fun _ _ _ _ _ => (pg_tup rfl (pgs_cons (pg_name (i := 5) scAmong.nd rfl (.inl rfl)) (pgs_cons (pg_name (i := 6) scAmong.nd rfl (.inl rfl)) pgs_nil)))) (fun _ _ _ _ _ => pts_nil) (fun _ _ _ _ _ => (pv 5)))))), ?_⟩
    refine ⟨by show 0 ≤ sizeLine; decide, fun t0 nt0 => ⟨by show 2 ≤ sizeLine; decide, fun u0 nu0 => ⟨by show 1 ≤ sizeLine; decide, fun p0 np0 => ?_⟩⟩⟩
    have s0 := ((same_new (o := .tup []) nt0).trans (same_new (o := .tup [V.ref t0, V.int 0]) nu0)).trans (same_new (o := .lst [V.ref u0]) np0)
    have f0 : H p0 = none := ((same_new (o := .tup []) nt0).trans (same_new (o := .tup [V.ref t0, V.int 0]) nu0)).free np0
    have b0 : BegL K (upd (upd (upd H t0 (.tup [])) u0 (.tup [V.ref t0, V.int 0])) p0 (.lst [V.ref u0])) [.ref u0] (begB ls k 0) ∧ (upd (upd (upd H t0 (.tup [])) u0 (.tup [V.ref t0, V.int 0])) p0 (.lst [V.ref u0])) p0 = some (.lst [V.ref u0]) := ⟨.cons ⟨u0, t0, rfl, SqT.of (same_new np0 _ _ upd_same), SqT.of (same_new np0 _ _ (same_new nu0 _ _ upd_same))⟩ .nil, upd_same⟩
    dsimp only [gName]
    generalize upd (upd (upd H t0 (.tup [])) u0 (.tup [V.ref t0, V.int 0])) p0 (.lst [V.ref u0]) = H0 at s0 b0
    have hp0 : H0 p0 = some (.lst [V.ref u0]) := b0.2
    replace b0 := b0.1
    refine ⟨_, rfl, 1, rfl, (k : Int), 0, -1, k, rfl, rgc_down k (by omega), ?_⟩
    refine for_rangeC (lo := (k : Int)) (c := -1) (n := k) (fun i σ H2 => ∃ (p : Addr) (us : List V) (v3 v4 v5 v6 v7 : Option V), σ = [some (.ref a), some (.int k), some (.ref p), v3, v4, v5, v6, v7] ∧ Same H H2 ∧ H p = none ∧ H2 p = some (.lst us) ∧ BegL K H2 us (begB ls k i)) ⟨p0, [.ref u0], none, none, none, none, none, rfl, s0, f0, hp0, b0⟩ ?_ ?_
    · rintro i σ H2 hi ⟨p, us, v3, v4, v5, v6, v7, rfl, s2, np, hp, r2⟩
      rw [show (k : Int) + ((i : Nat) : Int) * -1 = ((k - i : Nat) : Int) by omega]
      have b1 := hb1 i (by omega)
      have b2 := hb1 (i + 1) (by omega)
      refine ⟨Nat.zero_le _, fun pl npl => ?_⟩
      have sl := same_new (o := .lst []) npl
      refine ⟨.ref p, rfl, p, rfl, ⟨_, SqL.of (sl _ _ hp)⟩, for_list (K := K) (a := p) (xs := us) (fun z σ H3 => ∃ (acc : List V) (v5 v6 v7 : Option V), σ = [some (.ref a), some (.int k), some (.ref p), some (.int ((k - i : Nat) : Int)), some (.ref pl), v5, v6, v7] ∧ Same H2 H3 ∧ H3 pl = some (.lst acc) ∧ BegL K H3 acc (((begB ls k i).take z).flatMap (stepB ls (k - i)))) ⟨[], v5, v6, v7, rfl, sl, upd_same, .nil⟩ (fun z σ H3 _ ⟨_, _, _, _, _, s3, _⟩ => SqL.of (s3 _ _ hp)) ?_ ?_⟩
      · rintro z v σ H3 hz ⟨acc, v5, v6, v7, rfl, s3, hA3, r3⟩
        obtain ⟨⟨ms, st⟩, hms, u, t, rfl, hU, hT⟩ := paired_get (r2.same s3) hz
        obtain ⟨g1, g2⟩ := beg_good ls k i _ (List.mem_of_getElem? hms)
        have fs := fm_step (f := stepB ls (k - i)) hms
        have fb := fm_le (stepB ls (k - i)) (begB ls k i) (z + 1)
        rw [fs, List.length_append] at fb
        have fb2 : ((begB ls k i).flatMap (stepB ls (k - i))).length ≤ 100001 := b2
        refine ⟨u, _, rfl, hU, rfl, _, _, rfl, _, _, rfl, rfl, ?_⟩
        dsimp only at g1 g2 hU hT
        have hA4 := Same.seqT (s2.trans s3) hA
        have en : (((setV ls).length : Int) - ((k - i : Nat) : Int) + 1 - (st : Int)).toNat = ls.length + 1 - (k - i) - st := by
          rw [setV_len]
          omega
        have sl2 : (stepB ls (k - i) (ms, st)).length = ls.length + 1 - (k - i) - st := by
          unfold stepB
          rw [List.length_map, List.length_range']
        refine ⟨_, rfl, .ref a, rfl, a, _, rfl, .inr hA4, _, rfl, _, _, rfl, rfl, _, _, rfl, rfl, (st : Int), _, rfl, ⟨by omega, by omega, by rw [setV_len]; omega, by rw [setV_len]; omega⟩, ?_⟩
        refine for_range (lo := (st : Int)) (n := (((setV ls).length : Int) - ((k - i : Nat) : Int) + 1 - (st : Int)).toNat) (fun y σ H4 => ∃ (acc' : List V) (v7 : Option V), σ = [some (.ref a), some (.int k), some (.ref p), some (.int ((k - i : Nat) : Int)), some (.ref pl), some (.ref t), some (.int st), v7] ∧ Same H2 H4 ∧ Same (upd H3 pl (.lst [])) (upd H4 pl (.lst [])) ∧ H4 pl = some (.lst acc') ∧ BegL K H4 acc' (((begB ls k i).take z).flatMap (stepB ls (k - i)) ++ (List.range' st y).map fun x => (ms ++ [ls.getD x 0], x + 1))) ⟨acc, v7, rfl, s3, Same.refl _, hA3, by rw [List.range'_zero, List.map_nil, List.append_nil]; exact r3⟩ ?_ ?_
        · rintro y σ H4 hy ⟨acc', v7, rfl, s4, s34, hA4', r4⟩
          rw [en] at hy
          rw [show (st : Int) + (y : Int) = ((st + y : Nat) : Int) by omega]
          have hx : ls[st + y]? = some (ls.getD (st + y) 0) := by
            rw [List.getD_eq_getElem?_getD, List.getElem?_eq_getElem (show st + y < ls.length by omega)]
            rfl
          have hT4 : SqT K H4 t (setV ms) := by
            have h1 : SqT K (upd H3 pl (.lst [])) t (setV ms) := SqT_updL hT hA3
            have h2 := Same.seqT s34 h1
            have h3 : SqT K (upd (upd H4 pl (.lst [])) pl (.lst acc')) t (setV ms) := SqT_updL h2 upd_same
            rw [upd_upd] at h3
            have e : upd H4 pl (.lst acc') = H4 := by
              funext b
              unfold upd
              split
              · rename_i e
                rw [e, hA4']
              · rfl
            rw [e] at h3
            exact h3
          have al := r4.len
          rw [List.length_append, List.length_map, List.length_range'] at al
          refine ⟨.ref pl, rfl, .inl ⟨rfl, _, SqL.of hA4'⟩, .ref t, rfl, .ref a, rfl, _, rfl, a, _, _, _, rfl, rfl, Same.seqT (s2.trans s4) hA, atI_nat (setV_at hx), by show 1 ≤ sizeLine; decide, fun t1 nt1 => ?_⟩
          have s5 := same_new (o := .tup [V.int ((ls.getD (st + y) 0 : Nat) : Int)]) nt1
          refine ⟨t, t1, _, _, rfl, rfl, Same.seqT s5 hT4, SqT.of upd_same, ?_, fun t2 H5 s6 hT2 => ?_⟩
          · rw [setV_len, g1]
            exact small1000 (show i ≤ 1000 by omega)
          refine ⟨_, rfl, _, _, rfl, rfl, by show 2 ≤ sizeLine; decide, fun u2 nu2 => ?_⟩
          have s7 := same_new (o := .tup [V.ref t2, V.int (((st + y : Nat) : Int) + 1)]) nu2
          have s57 := (s5.trans s6).trans s7
          have hA7 := s57 _ _ hA4'
          have hu7 : (upd H5 u2 (.tup [V.ref t2, V.int (((st + y : Nat) : Int) + 1)])) u2 = some (.tup [V.ref t2, V.int (((st + y : Nat) : Int) + 1)]) := upd_same
          have hT7 := Same.seqT s7 hT2
          have r7 := r4.same s57
          dsimp only
          generalize upd H5 u2 (.tup [V.ref t2, V.int (((st + y : Nat) : Int) + 1)]) = H7 at s7 s57 hA7 hu7 hT7 r7 ⊢
          refine ⟨pl, _, _, rfl, rfl, hA7, ?_, acc' ++ [.ref u2], some (.int ((st + y : Nat) : Int)), rfl, keep_upd (s4.trans s57) npl, ?_, upd_same, ?_⟩
          · rw [sizeLine_eq]
            omega
          · rw [upd_upd]
            intro b o e
            by_cases hb2 : b = pl
            · rw [hb2, upd_same] at e ⊢
              exact e
            · rw [upd_ne hb2]
              have e2 := s34 b o e
              rw [upd_ne hb2] at e2
              exact s57 b o e2
          · rw [List.range'_1_concat, List.map_append, ← List.append_assoc]
            refine BegL.app (r7.updL hA7) (.cons ⟨u2, t2, rfl, SqT_updL (SqT.of hu7) hA7, SqT_updL ?_ hA7⟩ .nil)
            rw [setV_app]
            exact hT7
        · rintro σ H4 ⟨acc', v7, rfl, s4, s34, hA4', r4⟩
          refine ⟨acc', _, _, _, rfl, s4, hA4', ?_⟩
          rw [fs]
          rw [en] at r4
          exact r4
      · rintro σ H3 ⟨acc, v5, v6, v7, rfl, s3, hA3, r3⟩
        rw [r2.len, List.take_length] at r3
        exact ⟨.ref pl, rfl, pl, acc, _, _, _, _, _, rfl, s2.trans s3, s2.free npl, hA3, r3⟩
    · rintro σ H2 ⟨p, us, v3, v4, v5, v6, v7, rfl, s2, np, hp, r2⟩
      have e := beg_end ls k
      have bl := hb1 k (Nat.le_refl _)
      refine ⟨.ref p, rfl, p, rfl, ⟨_, SqL.of hp⟩, fun D nD => ?_⟩
      refine lc_list (K := K) (a := p) (xs := us) (fun z H3 => ∃ ts, Same H2 H3 ∧ H3 D = some (.lst ts) ∧ RowsL K H3 ts (((begB ls k k).take z).map (·.1))) ⟨[], same_new nD, upd_same, .nil⟩ (fun _ H3 _ ⟨_, s3, _⟩ => SqL.of (s3 _ _ hp)) ?_ ?_
      · rintro z v H3 hz ⟨ts, s3, hD, r3⟩
        obtain ⟨⟨ms, st⟩, hms, u, t, rfl, hU, hT⟩ := paired_get (r2.same s3) hz
        dsimp only at hU hT
        refine ⟨u, _, rfl, hU, rfl, _, _, rfl, _, _, rfl, rfl, ?_⟩
        have tl := r3.len
        rw [List.length_map, List.length_take] at tl
        refine ⟨rfl, .ref t, rfl, ts, hD, ?_, ts ++ [.ref t], keep_upd s3 nD, upd_same, ?_⟩
        · rw [sizeLine_eq]
          omega
        · rw [take_snoc hms, List.map_append]
          exact RowsL.app (r3.updD hD) (.cons ⟨t, rfl, SqT_updL hT hD⟩ .nil)
      · rintro H3 ⟨ts, s3, hD, r3⟩
        rw [r2.len, List.take_length, e] at r3
        exact q _ D ts (s2.trans s3) (s2.free nD) hD r3
end
/-! ### shares -/
/-- a fraction at an object -/
def QT (K : PySem.W.Frag) (H : Hp) (t : Addr) (q : Rat) : Prop := SqT K H t [.int q.num, .int (q.den : Int)]
theorem QT.same {K : PySem.W.Frag} {H H' : Hp} {t : Addr} {q : Rat} (s : Same H H') (h : QT K H t q) : QT K H' t q := Same.seqT s h
theorem cut_num (a b : Nat) (hb : 0 < b) : ((a : Rat) / (b : Rat)).num = ((a / Nat.gcd a b : Nat) : Int) := by
  have e : ((a : Rat) / (b : Rat)) = mkRat (a : Int) b := by rw [Rat.mkRat_eq_div]; rfl
  rw [e, Rat.num_mkRat, if_neg (by omega), Nat.gcd_comm b]
  rfl
theorem cut_den (a b : Nat) (hb : 0 < b) : ((a : Rat) / (b : Rat)).den = b / Nat.gcd a b := by
  have e : ((a : Rat) / (b : Rat)) = mkRat (a : Int) b := by rw [Rat.mkRat_eq_div]; rfl
  rw [e, Rat.den_mkRat, if_neg (by omega), Nat.gcd_comm b]
  rfl
def spShare (K : PySem.W.Frag) : Sp := fun vs H Q _ => ∃ a b : Nat, vs = [.int a, .int b] ∧ 0 < b ∧ b < 2 ^ 8000 ∧ a < 2 ^ 8000 ∧ ∀ H' t, Same H H' → H t = none → H' t = some (.tup [.int ((a : Rat) / (b : Rat)).num, .int (((a : Rat) / (b : Rat)).den : Int)]) → Q (.ref t) H'
/-- weights of a server -/
def wf (ws : List Nat) (x : Nat) : Nat := ws.getD x 1
def WtOk (ws : List Nat) : Prop := ws.length ≤ 60 ∧ ∀ x ∈ ws, 0 < x ∧ x ≤ 1000
theorem WtOk.pos {ws : List Nat} (h : WtOk ws) (x : Nat) : 0 < wf ws x := by
  unfold wf
  rw [List.getD_eq_getElem?_getD]
  cases e : ws[x]? with
  | none => exact Nat.one_pos
  | some y => exact (h.2 y (List.mem_of_getElem? e)).1
theorem WtOk.le {ws : List Nat} (h : WtOk ws) (x : Nat) : wf ws x ≤ 1000 := by
  unfold wf
  rw [List.getD_eq_getElem?_getD]
  cases e : ws[x]? with
  | none => decide
  | some y => exact (h.2 y (List.mem_of_getElem? e)).2
theorem wS_le {ws : List Nat} (h : WtOk ws) : ∀ l : List Nat, wS (wf ws) l ≤ 1000 * l.length
  | [] => Nat.le_refl _
  | x :: l => by
    have h1 := h.le x
    have h2 := wS_le h l
    rw [wS_cons, List.length_cons]
    omega
def spFShare (K : PySem.W.Frag) : Sp := fun vs H Q _ => ∃ (a b : Addr) (ws L : List Nat) (x : Nat), vs = [.ref a, .ref b, .int x] ∧ SqT K H a (setV ws) ∧ SqT K H b (setV L) ∧ WtOk ws ∧ L.length ≤ 60 ∧ L ≠ [] ∧ (∀ y ∈ L, y < ws.length) ∧ x < ws.length ∧
  ∀ H' t, Same H H' → H t = none → H' t = some (.tup [.int (shQ (wf ws) L x).num, .int ((shQ (wf ws) L x).den : Int)]) → Q (.ref t) H'
theorem wf_at {ws : List Nat} {x : Nat} (h : x < ws.length) : (setV ws)[x]? = some (V.int ((wf ws x : Nat) : Int)) := by
  unfold wf setV
  rw [List.getElem?_map, List.getD_eq_getElem?_getD, List.getElem?_eq_getElem h]
  rfl
section
variable {P : Program} {w : World} {K : PySem.W.Frag} {mg : Str → Option Value} {base : Heap}
theorem ok_share (T : Txt K mg) {j : Nat} : FnOk P w K mg base CX0 (j + 2) T.fShare T.fdShare ["numerator", "denominator"] (spShare K) := by
  refine T.FShare.ok scShare (fun vs H Q E h => ?_) (fun cdv A outer s H vs Q E hr h => ?_)
  · obtain ⟨a, b, rfl, _⟩ := h
    rfl
  · obtain ⟨a, b, rfl, hb, hb2, ha2, q⟩ := h
    refine ⟨_, pss_cons (ps_set (i := 2) scShare.nd rfl (.inl rfl) (pe_call (ok_gcd T) hr (by rfl) T.gGcd T.FGcd.kp T.bGcd .nil pass0 (pa_cons (pv 0) (pa_cons (pv 1) pa_nil)))) (pss_one (ps_ret (pe_tup (pa_cons (pe_op op_fdivW (pv 0) (pv 2)) (pa_cons (pe_op op_fdivW (pv 1) (pv 2)) pa_nil))))), ?_⟩
    have g0 : 0 < Nat.gcd a b := Nat.gcd_pos_of_pos_right a hb
    have g1 : Nat.gcd a b ≤ b := Nat.gcd_le_right a hb
    refine ⟨_, rfl, _, rfl, a, b, rfl, ?_⟩
    have gw : (((Nat.gcd a b : Nat) : Int)).natAbs < 2 ^ 8000 := by rw [Int.natAbs_natCast]; exact Nat.lt_of_le_of_lt g1 hb2
    refine ⟨_, rfl, _, rfl, _, _, rfl, rfl, wide_div (b := 8000) (Int.ofNat_lt.mpr g0) gw (by decide) (by decide), _, rfl, _, rfl, _, _, rfl, rfl, wide_div (b := 8000) (Int.ofNat_lt.mpr g0) gw (by decide) (by decide), by show 2 ≤ sizeLine; decide, fun t nt => ?_⟩
    refine q _ t (same_new nt) nt ?_
    rw [upd_same, cut_num a b hb, cut_den a b hb, Int.natCast_ediv, Int.natCast_ediv]
theorem ok_fshare (T : Txt K mg) {j : Nat} : FnOk P w K mg base CX0 (j + 3) T.fFShare T.fdFShare ["weights", "live", "server"] (spFShare K) := by
  refine T.FFShare.ok scFShare (fun vs H Q E h => ?_) (fun cdv A outer s H vs Q E hr h => ?_)
  · obtain ⟨a, b, ws, L, x, rfl, _⟩ := h
    rfl
  · obtain ⟨a, b, ws, L, x, rfl, hA, hB, hw, hl, hne, hL, hx, q⟩ := h
    refine ⟨_, pss_cons (ps_set (i := 3) scFShare.nd rfl (.inl rfl) (pe_callB (cr_sumK K) (by rfl) T.n_sum (by decide +kernel) (pa_cons (pe_lc (own := [("other", 4)]) (g := (gName 4)) (tt := tYes) rfl scFShare.nd (pi_tup (pv 1)) (blkOk_by (own := [("other", 4)]) (N := NFShare) (sc := defScope sFShare) (by decide +kernel)) (fun _ _ _ _ _ => (pg_name (i := 4) scFShare.nd rfl (.inl rfl))) (fun _ _ _ _ _ => pts_nil) (fun _ _ _ _ _ => (pe_ix (ix_tupK K) (pv 0) (pv 4) (fun _ _ => rfl)))) pa_nil))) (pss_cons (ps_if (pt_cmpR op_eq (pv 3) pe_int (nomark _)) (pss_one (ps_ret (pe_call (ok_share T) hr (by rfl) T.gShare T.FShare.kp T.bShare .nil pass0 (pa_cons pe_int (pa_cons (pe_callB (call_lenK K) (by rfl) T.n_len PySem.boot_len (pa_cons (pv 1) pa_nil)) pa_nil))))) pss_nil) (pss_one (ps_ret (pe_call (ok_share T) hr (by rfl) T.gShare T.FShare.kp T.bShare .nil pass0 (pa_cons (pe_ix (ix_tupK K) (pv 0) (pv 2) (fun _ _ => rfl)) (pa_cons (pv 3) pa_nil)))))), ?_⟩
    have hz := wS_le hw L
    have hp := wS_pos (w := wf ws) hw.pos L hne
    refine ⟨.ref b, rfl, b, rfl, ⟨_, hB⟩, fun D nD => ?_⟩
    refine lc_tup (K := K) (a := b) (xs := setV L) (fun z H2 => Same H H2 ∧ H2 D = some (.lst (setV ((L.take z).map (wf ws))))) ⟨same_new nD, upd_same⟩ (fun _ H2 _ h => Same.seqT h.1 hB) ?_ ?_
    · rintro z v H2 hz ⟨s2, hD⟩
      obtain ⟨y, hy, rfl⟩ := setV_get hz
      have hyl := hL y (List.mem_of_getElem? hy)
      refine ⟨rfl, .ref a, rfl, _, rfl, a, _, _, _, rfl, rfl, Same.seqT s2 hA, atI_nat (wf_at hyl), _, hD, ?_, keep_upd s2 nD, ?_⟩
      · rw [setV_len, List.length_map]
        exact small1000 (by rw [List.length_take]; omega)
      · rw [upd_same, take_snoc hy, List.map_append, setV_app]
        rfl
    · rintro H2 ⟨s2, hD⟩
      rw [setV_len, List.take_length, setV_ints] at hD
      refine ⟨D, _, rfl, SqL.of hD, ?_⟩
      have e : ((L.map (wf ws)).map fun (m : Nat) => (m : Int)).sum = ((wS (wf ws) L : Nat) : Int) := by
        unfold wS
        generalize L.map (wf ws) = l
        induction l with
        | nil => rfl
        | cons x l ih => rw [List.map_cons, List.sum_cons, List.sum_cons, ih, Int.natCast_add]
      rw [e]
      dsimp only [gName]
      refine ⟨_, rfl, rfl, _, rfl, ite2 (fun h => ?_) (fun _ => ?_)⟩
      · exfalso
        have := V.int.inj (of_decide_eq_true h)
        omega
      have b1 : wS (wf ws) L < 2 ^ 8000 := Nat.lt_of_lt_of_le (show wS (wf ws) L < 2 ^ 20 by omega) (Nat.pow_le_pow_right (by decide) (by decide))
      have b2 : wf ws x < 2 ^ 8000 := Nat.lt_of_lt_of_le (show wf ws x < 2 ^ 20 by have := hw.le x; omega) (Nat.pow_le_pow_right (by decide) (by decide))
      refine ⟨.ref a, rfl, _, rfl, a, _, _, _, rfl, rfl, Same.seqT s2 hA, atI_nat (wf_at hx), _, rfl, wf ws x, wS (wf ws) L, rfl, hp, b1, b2, fun H' t s3 nt ht => ?_⟩
      exact q H' t (s2.trans s3) (s2.free nt) ht
end
/-! ### level_share -/
theorem out_cp (n : Nat) (S : List Nat) : (outL n (S.map fun (m : Nat) => (m : Int))).map V.int = setV (cp n S) := by
  unfold outL subL setV cp
  rw [List.map_map, List.range_eq_range']
  rw [List.filter_congr (q := fun x => !decide (x ∈ S)) fun x _ => ?_]
  · rfl
  · congr 1
    refine decide_eq_decide.mpr ?_
    rw [List.mem_map]
    constructor
    · rintro ⟨y, hy, e⟩
      rw [show x = y by omega]
      exact hy
    · exact fun h => ⟨x, h, rfl⟩
def spLShare (K : PySem.W.Frag) : Sp := fun vs H Q _ => ∃ (a b : Addr) (ws S : List Nat) (x : Nat), vs = [.ref a, .ref b, .int x] ∧ SqT K H a (setV ws) ∧ SqT K H b (setV S) ∧ WtOk ws ∧ ws.length ≤ 6 ∧ S.Nodup ∧ (∀ y ∈ S, y < ws.length) ∧ x < ws.length ∧ x ∉ S ∧
  ∀ H' t, Same H H' → H t = none → H' t = some (.tup [.int (lvQ (wf ws) ws.length S x).num, .int ((lvQ (wf ws) ws.length S x).den : Int)]) → Q (.ref t) H'
theorem combs_six (l k : Nat) (h : l ≤ 5) : C l k ≤ 32 := Nat.le_trans (C_le l k) (Nat.le_trans (Nat.pow_le_pow_right (by decide) h) (by decide))
theorem shQ_num {ws : List Nat} (hw : WtOk ws) {L : List Nat} {x : Nat} (hL : L ≠ []) : ((shQ (wf ws) L x).num).natAbs < 2 ^ 10 := by
  have hp := wS_pos (w := wf ws) hw.pos L hL
  unfold shQ
  rw [cut_num _ _ hp, Int.natAbs_natCast]
  exact Nat.lt_of_le_of_lt (Nat.div_le_self _ _) (Nat.lt_of_le_of_lt (hw.le x) (by decide))
theorem shQ_den {ws : List Nat} (hw : WtOk ws) {L : List Nat} {x : Nat} (hL : L ≠ []) (hl : L.length ≤ 6) : (shQ (wf ws) L x).den < 2 ^ 13 := by
  have hp := wS_pos (w := wf ws) hw.pos L hL
  have := wS_le hw L
  unfold shQ
  rw [cut_den _ _ hp]
  exact Nat.lt_of_le_of_lt (Nat.div_le_self _ _) (by omega)
def sgI (k : Nat) : Int := if k % 2 = 0 then 1 else -1
theorem sgI_or (k : Nat) : sgI k = 1 ∨ sgI k = -1 := by
  unfold sgI
  by_cases h : k % 2 = 0
  · exact .inl (if_pos h)
  · exact .inr (if_neg h)
theorem sgI_cast (k : Nat) : ((sgI k : Int) : Rat) = sgn k := by
  unfold sgI sgn
  by_cases h : k % 2 = 0
  · rw [if_pos h, if_pos h]
    rfl
  · rw [if_neg h, if_neg h]
    rfl
theorem sgI_succ (k : Nat) : sgI (k + 1) = -sgI k := by
  unfold sgI
  by_cases h : k % 2 = 0
  · rw [if_pos h, if_neg (by omega)]
  · rw [if_neg h, if_pos (by omega)]
    rfl
theorem qs_snoc (l : List Rat) (x : Rat) : qs (l ++ [x]) = qs l + x := by
  rw [qs_app]
  simp only [qs]
  grind
section
variable {P : Program} {w : World} {K : PySem.W.Frag} {mg : Str → Option Value} {base : Heap}
theorem ok_lshare (T : Txt K mg) {j : Nat} : FnOk P w K mg base CX0 (j + 4) T.fLShare T.fdLShare ["weights", "members", "server"] (spLShare K) := by
  refine T.FLShare.ok scLShare (fun vs H Q E h => ?_) (fun cdv A outer s H vs Q E hr h => ?_)
  · obtain ⟨a, b, ws, S, x, rfl, _⟩ := h
    rfl
  · obtain ⟨a, b, ws, S, x, rfl, hA, hB, hw, hl, hS, hn, hx, hxS, q⟩ := h
    refine ⟨_, pss_cons (ps_set (i := 3) scLShare.nd rfl (.inl rfl) (pe_call (ok_out T) hr (by rfl) T.gOut T.FOut.kp T.bOut .nil pass0 (pa_cons (pe_callB (call_lenK K) (by rfl) T.n_len PySem.boot_len (pa_cons (pv 0) pa_nil)) (pa_cons (pv 1) pa_nil)))) (pss_cons (ps_asg (pe_tup (pa_cons pe_int (pa_cons pe_int pa_nil))) (pg_tup rfl (pgs_cons (pg_name (i := 4) scLShare.nd rfl (.inl rfl)) (pgs_cons (pg_name (i := 5) scLShare.nd rfl (.inl rfl)) pgs_nil)))) (pss_cons (ps_set (i := 6) scLShare.nd rfl (.inl rfl) pe_int) (pss_cons (ps_for PassesOwn.never rfl (pi_range1 (by rfl) T.n_range (pa_cons (pe_op op_add (pe_callB (call_lenK K) (by rfl) T.n_len PySem.boot_len (pa_cons (pv 1) pa_nil)) pe_int) pa_nil)) (pg_name (i := 7) scLShare.nd rfl (.inl rfl)) (pss_cons (ps_for PassesOwn.never rfl (pi_list (pe_call (ok_among T) hr (by rfl) T.gAmong T.FAmong.kp T.bAmong .nil pass0 (pa_cons (pv 1) (pa_cons (pv 7) pa_nil)))) (pg_name (i := 8) scLShare.nd rfl (.inl rfl)) (pss_cons (ps_asg (pe_call (ok_fshare T) hr (by rfl) T.gFShare T.FFShare.kp T.bFShare .nil pass0 (pa_cons (pv 0) (pa_cons (pe_op (op_catS K) (pv 3) (pv 8)) (pa_cons (pv 2) pa_nil)))) (pg_tup rfl (pgs_cons (pg_name (i := 9) scLShare.nd rfl (.inl rfl)) (pgs_cons (pg_name (i := 10) scLShare.nd rfl (.inl rfl)) pgs_nil)))) (pss_cons (ps_set (i := 11) scLShare.nd rfl (.inl rfl) (pe_call (ok_lcm T) hr (by rfl) T.gLcm T.FLcm.kp T.bLcm .nil pass0 (pa_cons (pv 5) (pa_cons (pv 10) pa_nil)))) (pss_cons (ps_set (i := 4) scLShare.nd rfl (.inl rfl) (pe_op op_add (pe_op op_mulW (pv 4) (pe_op op_fdivW (pv 11) (pv 5))) (pe_op op_mulW (pe_op op_mul (pv 6) (pv 9)) (pe_op op_fdivW (pv 11) (pv 10))))) (pss_one (ps_set (i := 5) scLShare.nd rfl (.inl rfl) (pv 11))))))) (pss_one (ps_set (i := 6) scLShare.nd rfl (.inl rfl) (pe_un un_neg (pv 6)))))) (pss_one (ps_ret (pe_call (ok_share T) hr (by rfl) T.gShare T.FShare.kp T.bShare .nil pass0 (pa_cons (pv 4) (pa_cons (pv 5) pa_nil)))))))), ?_⟩
    have hlt : S.length < ws.length := by
      have := cp_len hS hn
      have h2 : 0 < (cp ws.length S).length := List.length_pos_of_mem (a := x) (List.mem_filter.mpr ⟨mem_range0.mpr hx, by simpa using hxS⟩)
      omega
    have hl5 : S.length ≤ 5 := by
      have := cp_len hS hn
      have h2 : 0 < (cp ws.length S).length := List.length_pos_of_mem (a := x) (List.mem_filter.mpr ⟨mem_range0.mpr hx, by simpa using hxS⟩)
      omega
    have hne : ∀ T, cp ws.length S ++ T ≠ [] := fun T z => by
      have h2 : 0 < (cp ws.length S).length := List.length_pos_of_mem (a := x) (List.mem_filter.mpr ⟨mem_range0.mpr hx, by simpa using hxS⟩)
      rw [(List.append_eq_nil_iff.mp z).1] at h2
      cases h2
    have hcl := cp_len hS hn
    generalize hO : cp ws.length S = O at hne hcl
    have hOl : ∀ y ∈ O, y < ws.length := fun y hy => by
      rw [← hO] at hy
      exact mem_range0.mp (List.mem_filter.mp hy).1
    have e6 : sumT (fun T => shQ (wf ws) (O ++ T) x) S (S.length + 1) = lvQ (wf ws) ws.length S x := by rw [← hO]; exact sumT_lv _ _ _ _
    generalize hf : (fun T => shQ (wf ws) (O ++ T) x) = f at e6
    refine ⟨.ref a, rfl, ⟨_, _, rfl, .inr hA, _, rfl, ws.length, b, S.map (fun (m : Nat) => (m : Int)), ?_, ?_, by omega, by rw [List.length_map]; omega, fun H1 po s1 nO hO1 => ?_⟩⟩
    · rw [setV_len]
      rfl
    · rw [← setV_ints]
      exact hB
    rw [out_cp, hO] at hO1
    dsimp only [gName]
    refine ⟨by show 2 ≤ sizeLine; decide, fun pt nt => ?_⟩
    refine ⟨pt, _, rfl, SqT.of upd_same, rfl, _, _, rfl, _, _, rfl, rfl, ?_⟩
    have s2 := s1.trans (same_new (o := .tup [V.int 0, V.int 1]) nt)
    have hO2 := same_new (o := .tup [V.int 0, V.int 1]) nt _ _ hO1
    generalize upd H1 pt (.tup [V.int 0, V.int 1]) = H2 at s2 hO2
    dsimp only [gName]
    refine ⟨.ref b, rfl, _, _, rfl, .inr (Same.seqT s2 hB), _, _, rfl, rfl, ((S.length + 1 : Nat) : Int), ?_, by omega, by omega, ?_⟩
    · rw [setV_len]
      rfl
    refine for_range (lo := 0) (n := ((S.length + 1 : Nat) : Int).toNat) (fun k σ H3 => ∃ (N : Int) (D : Nat) (v7 v8 v9 v10 v11 : Option V), σ = [some (.ref a), some (.ref b), some (.int x), some (.ref po), some (.int N), some (.int (D : Int)), some (.int (sgI k)), v7, v8, v9, v10, v11] ∧ Same H2 H3 ∧ 0 < D ∧ D < 2 ^ (14 * (32 * k + 1)) ∧ N.natAbs < 2 ^ (14 * (32 * k + 1)) ∧ (N : Rat) / ((D : Nat) : Rat) = sumT f S k) ?_ ?_ ?_
    · refine ⟨0, 1, none, none, none, none, none, rfl, Same.refl _, Nat.one_pos, Nat.one_lt_two_pow (by decide), Nat.two_pow_pos _, ?_⟩
      show (0 : Rat) / 1 = 0
      grind
    · rintro k σ H3 hk ⟨N0, D0, v7, v8, v9, v10, v11, rfl, s3, hD0, hDb0, hNb0, hq0⟩
      rw [Int.toNat_natCast] at hk
      rw [Int.zero_add]
      have hcl2 : (combs S k).length ≤ 32 := by
        rw [combsLen]
        exact combs_six _ _ hl5
      dsimp only [gName]
      refine ⟨.ref b, rfl, _, rfl, b, S, k, rfl, Same.seqT (s2.trans s3) hB, by omega, by omega, by omega, fun H4 pl ts s4 npl hpl R4 => ?_⟩
      have rl := R4.len
      refine ⟨pl, rfl, ⟨_, SqL.of hpl⟩, ?_⟩
      refine for_list (K := K) (a := pl) (xs := ts) (fun z σ H5 => ∃ (N : Int) (D : Nat) (v8 v9 v10 v11 : Option V), σ = [some (.ref a), some (.ref b), some (.int x), some (.ref po), some (.int N), some (.int (D : Int)), some (.int (sgI k)), some (.int k), v8, v9, v10, v11] ∧ Same H4 H5 ∧ 0 < D ∧ D < 2 ^ (14 * (32 * k + z + 1)) ∧ N.natAbs < 2 ^ (14 * (32 * k + z + 1)) ∧ (N : Rat) / ((D : Nat) : Rat) = sumT f S k + sgn k * qs (((combs S k).take z).map f)) ?_ ?_ ?_ ?_
      · refine ⟨N0, D0, v8, v9, v10, v11, rfl, Same.refl _, hD0, hDb0, hNb0, ?_⟩
        rw [hq0]
        show _ = sumT f S k + sgn k * 0
        grind
      · rintro z σ H5 _ ⟨_, _, _, _, _, _, _, s5, _⟩
        exact SqL.of (s5 _ _ hpl)
      · rintro z v σ H5 hz ⟨N, D, v8, v9, v10, v11, rfl, s5, hD, hDb, hNb, hq⟩
        obtain ⟨T, hT, t, rfl, hTt⟩ := paired_get (R4.same s5) hz
        have hzl : z < ts.length := (List.getElem?_eq_some_iff.mp hz).1
        obtain ⟨g1, g2⟩ := combs_good S k T (List.mem_of_getElem? hT)
        have hTl : T.length ≤ S.length := g2.length_le
        have hb3 : 14 * (32 * k + z + 1) ≤ 4000 := by omega
        dsimp only [gName]
        have s25 := (s3.trans s4).trans s5
        refine ⟨.ref a, rfl, .ref po, rfl, .ref t, rfl, po, t, setV O, setV T, rfl, rfl, SqT.of (s25 _ _ hO2), hTt, by rw [setV_len, setV_len, sizeLine_eq]; omega, fun p6 H6 s6 hP6 => ?_⟩
        rw [← setV_app] at hP6
        refine ⟨_, rfl, a, p6, ws, O ++ T, x, rfl, Same.seqT ((s2.trans s25).trans s6) hA, hP6, hw, by rw [List.length_append]; omega, hne T, fun y hy => ?_, hx, fun H7 t7 s7 n7 h7 => ?_⟩
        · rcases List.mem_append.mp hy with hy | hy
          · exact hOl y hy
          · exact hn y (g2.subset hy)
        have ef : shQ (wf ws) (O ++ T) x = f T := by rw [← hf]
        have q1 := shQ_num (x := x) hw (hne T)
        have q2 := shQ_den (x := x) hw (hne T) (by rw [List.length_append]; omega)
        rw [ef] at h7 q1 q2
        have q3 := (f T).den_pos
        refine ⟨t7, _, rfl, SqT.of h7, rfl, _, _, rfl, _, _, rfl, rfl, ?_⟩
        obtain ⟨b1, b2, b3, b4⟩ := frac_size (sg := sgI k) hD q3 hNb hDb (sgI_or k) q1 q2
        have fs := frac_step N (sgI k) D (f T) hD
        dsimp only [gName]
        refine ⟨_, rfl, _, rfl, D, (f T).den, rfl, q3, bits_up q2 (by decide), Nat.lt_of_lt_of_le hDb (Nat.pow_le_pow_right (by decide) (by omega)), ?_⟩
        dsimp only [gName]
        have c0 := stepL_pos hD q3
        generalize stepL D (f T).den = c at b1 b2 b3 b4 fs c0
        have big : ∀ m : Nat, m < 2 ^ (14 * (32 * k + z + 1)) → m < 2 ^ 8000 := fun m h => Nat.lt_of_lt_of_le h (Nat.pow_le_pow_right (by decide) (by omega))
        have u1 : CDivW (c : Int) (D : Int) := wide_div (b := 8000) (Int.ofNat_lt.mpr hD) (by rw [Int.natAbs_natCast]; exact big D hDb) (by decide) (by decide)
        have u2 : CDivW (c : Int) ((f T).den : Int) := wide_div (b := 8000) (Int.ofNat_lt.mpr q3) (by rw [Int.natAbs_natCast]; exact bits_up q2 (by decide)) (by decide) (by decide)
        have u3 : CMulW N ((c : Int) / (D : Int)) := by
          rw [← Int.natCast_ediv]
          exact wide_mul (a := 8000) (b := 8000) (big _ hNb) (by rw [Int.natAbs_natCast]; exact bits_up b3 (by decide)) (by decide) (by decide) (by decide)
        have u4 : CMulW (sgI k * (f T).num) ((c : Int) / ((f T).den : Int)) := by
          rw [← Int.natCast_ediv]
          refine wide_mul (a := 8000) (b := 8000) ?_ (by rw [Int.natAbs_natCast]; exact big _ b4) (by decide) (by decide) (by decide)
          rw [Int.natAbs_mul]
          have : (sgI k).natAbs = 1 := by rcases sgI_or k with e | e <;> rw [e] <;> rfl
          rw [this, Nat.one_mul]
          exact bits_up q1 (by decide)
        refine ⟨_, rfl, _, rfl, _, rfl, _, _, rfl, rfl, u1, _, _, rfl, rfl, u3, _, rfl, _, rfl, _, _, rfl, rfl, .inl ?_, _, rfl, _, rfl, _, _, rfl, rfl, u2, _, _, rfl, rfl, u4, _, _, rfl, rfl, ?_⟩
        · rcases sgI_or k with e | e <;> rw [e] <;> exact ⟨by decide, by decide⟩
        rw [← Int.natCast_ediv, ← Int.natCast_ediv]
        refine ⟨_, rfl, _, c, _, _, _, _, rfl, ((s5.trans s6).trans s7), c0, bits_up b2 (by omega), bits_up b1 (by omega), ?_⟩
        rw [fs, hq, sgI_cast, take_snoc hT, List.map_append, qs_app]
        simp only [List.map_cons, List.map_nil, qs]
        grind
      · rintro σ H5 ⟨N, D, v8, v9, v10, v11, rfl, s5, hD, hDb, hNb, hq⟩
        dsimp only [gName]
        rw [rl] at hDb hNb hq
        refine ⟨_, rfl, _, rfl, N, D, some (.int k), v8, v9, v10, v11, ?_, ((s3.trans s4).trans s5), hD, bits_up hDb (by omega), bits_up hNb (by omega), ?_⟩
        · rw [sgI_succ]
          rfl
        · rw [hq, List.take_length, sumT_succ]
          rfl
    · rintro σ H3 ⟨N, D, v7, v8, v9, v10, v11, rfl, s3, hD, hDb, hNb, hq⟩
      rw [Int.toNat_natCast] at hDb hNb hq
      rw [e6] at hq
      have hpos := lv_pos (w := wf ws) hw.pos (x := x) hS hn hlt
      rw [← hq] at hpos
      have N0 : 0 ≤ N := by
        rcases Int.lt_or_le N 0 with h | h
        · exfalso
          have h1 : (N : Rat) ≤ 0 := by exact_mod_cast Int.le_of_lt h
          have h2 : (0 : Rat) < ((D : Nat) : Rat) := by exact_mod_cast hD
          have h3 := Rat.mul_pos hpos h2
          rw [Rat.div_mul_cancel (by grind)] at h3
          grind
        · exact h
      obtain ⟨M, rfl⟩ := Int.eq_ofNat_of_zero_le N0
      have hqM : ((M : Nat) : Rat) / ((D : Nat) : Rat) = lvQ (wf ws) ws.length S x := hq
      refine ⟨_, rfl, _, rfl, M, D, rfl, hD, Nat.lt_of_lt_of_le hDb (Nat.pow_le_pow_right (by decide) (by omega)), Nat.lt_of_lt_of_le (by rw [Int.natAbs_natCast] at hNb; exact hNb) (Nat.pow_le_pow_right (by decide) (by omega)), fun H9 t9 s9 n9 h9 => ?_⟩
      rw [hqM] at h9
      have sa := s2.trans s3
      exact q H9 t9 (sa.trans s9) (sa.free n9) h9
end
/-! ### tuples of servers as keys -/
def nkT (ms : List Nat) : NestedKey := .tup (ms.map fun (m : Nat) => .num (m : Int))
theorem nk_all_set {K : PySem.W.Frag} {H : Hp} : ∀ ms : List Nat, NkAll K H (ms.map fun (m : Nat) => NestedKey.num (m : Int)) (setV ms)
  | [] => .nil
  | m :: r => .cons (.num _) (nk_all_set r)
theorem nkT_at {K : PySem.W.Frag} {H : Hp} {t : Addr} {ms : List Nat} (h : SqT K H t (setV ms)) : NkAt K H (nkT ms) (.ref t) := .tup h (nk_all_set ms)
theorem nkT_depth (ms : List Nat) : (nkT ms).depth ≤ 8 := by
  have e : ∀ l : List Nat, NestedKey.depthAll (l.map fun (m : Nat) => NestedKey.num (m : Int)) = 0 := by
    intro l
    induction l with
    | nil => rfl
    | cons a r ih =>
      rw [List.map_cons]
      simp only [NestedKey.depthAll, NestedKey.depth]
      rw [ih]
      rfl
  unfold nkT
  simp only [NestedKey.depth]
  rw [e]
  decide
theorem nkT_inj {a b : List Nat} (h : nkT a = nkT b) : a = b := by
  unfold nkT at h
  injection h with h
  induction a generalizing b with
  | nil =>
    cases b with
    | nil => rfl
    | cons y s => cases h
  | cons x r ih =>
    cases b with
    | nil => cases h
    | cons y s =>
      rw [List.map_cons, List.map_cons] at h
      injection h with h1 h2
      injection h1 with h1
      rw [ih h2, show x = y by omega]
/-- how often a set comes among the keys -/
theorem nkT_count (ks : List (List Nat)) (c : List Nat) : (ks.map nkT).count (nkT c) = ks.count c := by
  induction ks with
  | nil => rfl
  | cons k r ih =>
    rw [List.map_cons, List.count_cons, List.count_cons, ih]
    congr 1
    by_cases e : k = c
    · rw [e, if_pos (beq_self_eq_true _), if_pos (beq_self_eq_true _)]
    · rw [if_neg (fun z => e (nkT_inj (beq_iff_eq.mp z))), if_neg (fun z => e (beq_iff_eq.mp z))]
theorem tally_get (ks : List (List Nat)) (c : List Nat) : (valV (tallyN (ks.map nkT)) (nkT c)).getD (.int 0) = .int (ks.count c : Nat) := by
  rw [tally_val _ _ rfl, nkT_count]
  by_cases e : ks.count c = 0
  · rw [if_pos e, e]
    rfl
  · rw [if_neg e]
    rfl
theorem tally_len (ks : List NestedKey) : (tallyN ks).length ≤ ks.length := by
  unfold tallyN
  have g : ∀ (ks : List NestedKey) (acc : List (NestedKey × V)), (ks.foldl (fun acc k => putK acc k (.int (cntV (valV acc k) + 1))) acc).length ≤ acc.length + ks.length := by
    intro ks
    induction ks with
    | nil => intro acc; exact Nat.le_refl _
    | cons k r ih =>
      intro acc
      rw [List.foldl_cons]
      have h1 := ih (putK acc k (.int (cntV (valV acc k) + 1)))
      have h2 := length_putK acc k (.int (cntV (valV acc k) + 1))
      rw [List.length_cons]
      omega
  have := g ks []
  rw [List.length_nil] at this
  omega
/-- one more -/
theorem tally_one (ks : List (List Nat)) (c : List Nat) : putK (tallyN (ks.map nkT)) (nkT c) (.int ((ks.count c : Nat) + 1)) = tallyN ((ks ++ [c]).map nkT) := by
  rw [List.map_append]
  show _ = tallyN (ks.map nkT ++ [nkT c])
  rw [tally_snoc]
  congr 2
  congr 1
  rw [tally_val _ _ rfl, nkT_count]
  by_cases e : ks.count c = 0
  · rw [if_pos e, e]
    rfl
  · rw [if_neg e]
    rfl
/-! ### edges as keys: a set and the next server -/
abbrev Edge := List Nat × Nat
def nkE (e : Edge) : NestedKey := .tup [.tup (e.1.map fun (m : Nat) => .num (m : Int)), .num (e.2 : Int)]
theorem nums_inj {a b : List Nat} (h : (a.map fun (m : Nat) => NestedKey.num (m : Int)) = b.map fun (m : Nat) => NestedKey.num (m : Int)) : a = b := by
  induction a generalizing b with
  | nil =>
    cases b with
    | nil => rfl
    | cons y s => cases h
  | cons x r ih =>
    cases b with
    | nil => cases h
    | cons y s =>
      rw [List.map_cons, List.map_cons] at h
      injection h with h1 h2
      injection h1 with h1
      rw [ih h2, show x = y by omega]
theorem nkE_inj (a b : Edge) (h : nkE a = nkE b) : a = b := by
  unfold nkE at h
  injection h with h
  injection h with h1 h2
  injection h1 with h1
  injection h2 with h2
  injection h2 with h2
  exact Prod.ext (nums_inj h1) (by omega)
theorem nums_all {K : PySem.W.Frag} {H : Hp} : ∀ ms : List Nat, NkAll K H (ms.map fun (m : Nat) => NestedKey.num (m : Int)) (setV ms)
  | [] => .nil
  | m :: r => .cons (.num _) (nums_all r)
theorem nkE_at {K : PySem.W.Frag} {H : Hp} {u t : Addr} {e : Edge} (h1 : SqT K H u [.ref t, .int (e.2 : Int)]) (h2 : SqT K H t (setV e.1)) : NkAt K H (nkE e) (.ref u) := .tup h1 (.cons (.tup h2 (nums_all e.1)) (.cons (.num _) .nil))
theorem nums_depth : ∀ l : List Nat, NestedKey.depthAll (l.map fun (m : Nat) => NestedKey.num (m : Int)) = 0
  | [] => rfl
  | a :: r => by
    rw [List.map_cons]
    simp only [NestedKey.depthAll, NestedKey.depth]
    rw [nums_depth r]
    rfl
theorem nkE_depth (e : Edge) : (nkE e).depth ≤ 8 := by
  unfold nkE
  simp only [NestedKey.depth, NestedKey.depthAll]
  rw [nums_depth]
  decide
theorem nums_datas : ∀ l : List Nat, NestedKey.datas (l.map fun (m : Nat) => NestedKey.num (m : Int)) = natD l
  | [] => rfl
  | a :: r => by
    rw [List.map_cons]
    simp only [NestedKey.datas, NestedKey.data]
    rw [nums_datas r]
    rfl
def edgeD (e : Edge) : PyData := .tuple [.tuple (natD e.1), .int (e.2 : Int)]
theorem nkE_data (e : Edge) : (nkE e).data = edgeD e := by
  unfold nkE edgeD
  simp only [NestedKey.data, NestedKey.datas]
  rw [nums_datas]
theorem natD_int (ms : List Nat) : natD ms = (ms.map fun (m : Nat) => (m : Int)).map PyData.int := by
  unfold natD
  rw [List.map_map]
  rfl
theorem alike_edge (a b : Edge) : PySem.W.alike (edgeD a) (edgeD b) = true := by
  unfold edgeD
  rw [natD_int, natD_int]
  simp only [PySem.W.alike, PySem.W.alikeAll, PySem.W.alike_ints]
  rfl
theorem depth_edge (e : Edge) : (edgeD e).depth ≤ 20 := by
  unfold edgeD
  rw [natD_int]
  simp only [PyData.depth, PyData.depthAll, PySem.W.depth_ints]
  decide
/-- the edges of the rows at a level -/
def edgeL (s : Nat) (r : List Nat) : Edge := (srt (r.take s), r.getD s 0)
def edgesL (s : Nat) (rows : List (List Nat)) : List Edge := (rows.filter fun r => decide (s < r.length)).map (edgeL s)
theorem edges_all {s : Nat} {rows : List (List Nat)} (h : ∀ r ∈ rows, s < r.length) : edgesL s rows = rows.map (edgeL s) := by
  unfold edgesL
  rw [List.filter_eq_self.mpr fun r hr => decide_eq_true (h r hr)]
theorem edges_snoc (s : Nat) (rows : List (List Nat)) (r : List Nat) : edgesL s (rows ++ [r]) = edgesL s rows ++ if s < r.length then [edgeL s r] else [] := by
  unfold edgesL
  rw [List.filter_append, List.map_append]
  congr 1
  by_cases c : s < r.length
  · rw [if_pos c, List.filter_cons_of_pos (by simpa using c)]
    rfl
  · rw [if_neg c, List.filter_cons_of_neg (by simpa using c)]
    rfl
/-- the dict of the edges' numbers -/
abbrev tallyE (es : List Edge) : List (NestedKey × V) := tallyN (es.map nkE)
theorem keyE_mem {es : List Edge} {k : NestedKey} (h : k ∈ (tallyE es).map (·.1)) : ∃ e ∈ es, nkE e = k := List.mem_map.mp ((tally_keys _ k).mp h)
theorem tallyE_alike (es : List Edge) : PySem.W.AllAlike (((tallyE es).map (·.1)).map NestedKey.data) := by
  intro d hd d' hd'
  obtain ⟨k, hk, rfl⟩ := List.mem_map.mp hd
  obtain ⟨k', hk', rfl⟩ := List.mem_map.mp hd'
  obtain ⟨e, _, rfl⟩ := keyE_mem hk
  obtain ⟨e', _, rfl⟩ := keyE_mem hk'
  rw [nkE_data, nkE_data]
  exact alike_edge e e'
theorem tallyE_sortable (es : List Edge) : PySem.W.Sortable (((tallyE es).map (·.1)).map NestedKey.data) := .inl fun d hd => by
  obtain ⟨k, hk, rfl⟩ := List.mem_map.mp hd
  obtain ⟨e, _, rfl⟩ := keyE_mem hk
  rw [nkE_data]
  exact ⟨_, _, rfl⟩
theorem tallyE_depth (es : List Edge) : ∀ k ∈ (tallyE es).map (·.1), k.data.depth ≤ 20 := fun k hk => by
  obtain ⟨e, _, rfl⟩ := keyE_mem hk
  rw [nkE_data]
  exact depth_edge e
/-- the edges that occur, in order -/
def sortE (es : List Edge) : List NestedKey := ((tallyE es).map (·.1)).mergeSort nLe
theorem sortE_mem {es : List Edge} {k : NestedKey} (h : k ∈ sortE es) : ∃ e ∈ es, nkE e = k := keyE_mem ((List.mergeSort_perm _ _).mem_iff.mp h)
theorem sortE_len (es : List Edge) : (sortE es).length ≤ es.length := by
  unfold sortE
  rw [List.length_mergeSort, List.length_map]
  have := tally_lenG (es.map nkE)
  rw [List.length_map] at this
  exact this
/-- the level numbers as data -/
def levD (es : List Edge) : PyData := .tuple ((sortE es).map fun k => .tuple [k.data, .int ((es.map nkE).count k : Nat)])
/-- a tuple of (edge, many) -/
def LevAt (K : PySem.W.Frag) (H : Hp) (t : Addr) (es : List Edge) : Prop := ∃ us : List V, H t = some (.tup us) ∧ PySem.Paired (fun v k => ∃ u b, v = V.ref u ∧ SqT K H u [.ref b, .int ((es.map nkE).count k : Nat)] ∧ NkAt K H k (.ref b)) us (sortE es)
theorem LevAt.same {K : PySem.W.Frag} {H H' : Hp} {t : Addr} {es : List Edge} (s : Same H H') (h : LevAt K H t es) : LevAt K H' t es := by
  obtain ⟨us, h1, h2⟩ := h
  exact ⟨us, s _ _ h1, PySem.Paired.mono (fun v k ⟨u, b, e, z1, z2⟩ => ⟨u, b, e, Same.seqT s z1, z2.same s⟩) h2⟩
theorem LevAt.dp {K : PySem.W.Frag} {H : Hp} {t : Addr} {es : List Edge} (h : LevAt K H t es) : Dp K H (.ref t) (levD es) := by
  obtain ⟨us, h1, h2⟩ := h
  refine .tup (SqT.of h1) ?_
  clear h1
  generalize sortE es = ks at h2
  induction h2 with
  | nil => exact .nil
  | cons a _ ih =>
    obtain ⟨u, b, rfl, z1, z2⟩ := a
    exact .cons (.tup z1 (.cons (nk_dp _ _ z2) (.cons (.int _) .nil))) ih
theorem sh_levs {es : List Edge} {sz : Nat} (hc : es.length ≤ 1000) : ∀ {ks : List NestedKey}, (∀ k ∈ ks, ∃ e : Edge, nkE e = k ∧ e.1.length ≤ sz ∧ (∀ x ∈ e.1, x < 60) ∧ e.2 < 60) → ShAll 3 ((7 * sz + 21) * ks.length) (ks.map fun k => .tuple [k.data, .int ((es.map nkE).count k : Nat)])
  | [], _ => ShAll.nil.mono (by decide) (Nat.zero_le _)
  | k :: ks, h => by
    obtain ⟨e, rfl, h1, h2, h3⟩ := h k List.mem_cons_self
    have a := Sh.tup (sh_nat (b := 6) (by decide) (by decide) (ms := e.1) fun x hx => by have := h2 x hx; omega)
    have b : Sh 0 6 (.int (e.2 : Int)) := Sh.int (by decide) (by decide) (by rw [Int.natAbs_natCast]; omega)
    have c := Sh.tup (ShAll.cons a (ShAll.cons (b.mono (dp' := 1) (by decide) (Nat.le_refl _)) (ShAll.nil.mono (dp' := 1) (wt' := 0) (by decide) (by decide))))
    have hcn := List.count_le_length (a := nkE e) (l := es.map nkE)
    rw [List.length_map] at hcn
    have d : Sh 0 10 (.int ((es.map nkE).count (nkE e) : Nat)) := Sh.int (by decide) (by decide) (by rw [Int.natAbs_natCast]; omega)
    have f := Sh.tup (ShAll.cons c (ShAll.cons (d.mono (dp' := 2) (by decide) (Nat.le_refl _)) (ShAll.nil.mono (dp' := 2) (wt' := 0) (by decide) (by decide))))
    have g := ShAll.cons f (sh_levs hc fun y hy => h y (List.mem_cons_of_mem _ hy))
    rw [List.map_cons, nkE_data]
    refine g.mono (Nat.le_refl _) ?_
    show (6 + 1) * e.1.length + 1 + (6 + 1 + 0) + 1 + (10 + 1 + 0) + 1 + (7 * sz + 21) * ks.length ≤ (7 * sz + 21) * (ks.length + 1)
    rw [Nat.mul_succ]
    omega
/-! ### dicts of shares -/
def QD {κ : Type} (K : PySem.W.Frag) (H : Hp) (nk : κ → NestedKey) (val : κ → Rat) (kvs : List (NestedKey × V)) (ks : List κ) : Prop := PySem.Paired (fun (kv : NestedKey × V) (s : κ) => kv.1 = nk s ∧ ∃ t, kv.2 = V.ref t ∧ QT K H t (val s)) kvs ks
section
variable {κ : Type} {K : PySem.W.Frag} {H H' : Hp} {nk : κ → NestedKey} {val val' : κ → Rat} {kvs : List (NestedKey × V)} {ks : List κ}
theorem QD.mono (m : ∀ a xs, SqT K H a xs → SqT K H' a xs) (h : QD K H nk val kvs ks) : QD K H' nk val kvs ks := PySem.Paired.mono (fun kv s ⟨e, t, e2, z⟩ => ⟨e, t, e2, m _ _ z⟩) h
theorem QD.same (s : Same H H') (h : QD K H nk val kvs ks) : QD K H' nk val kvs ks := h.mono fun _ _ z => Same.seqT s z
theorem QD.len (h : QD K H nk val kvs ks) : kvs.length = ks.length := PySem.Paired.length h
theorem QD.keys (h : QD K H nk val kvs ks) : kvs.map (·.1) = ks.map nk := by
  unfold QD at h
  induction h with
  | nil => rfl
  | cons a _ ih => rw [List.map_cons, List.map_cons, ih, a.1]
theorem QD.congr (h : QD K H nk val kvs ks) (e : ∀ s ∈ ks, val s = val' s) : QD K H nk val' kvs ks := by
  unfold QD at *
  induction h with
  | nil => exact .nil
  | @cons p q _ _ a _ ih =>
    refine .cons ?_ (ih fun s hs => e s (List.mem_cons_of_mem _ hs))
    obtain ⟨a1, t, a2, a3⟩ := a
    exact ⟨a1, t, a2, by rw [← e _ List.mem_cons_self]; exact a3⟩
theorem QD.val_of (inj : ∀ a b, nk a = nk b → a = b) (h : QD K H nk val kvs ks) {s : κ} (hs : s ∈ ks) : ∃ t, valV kvs (nk s) = some (V.ref t) ∧ QT K H t (val s) := by
  unfold QD at h
  induction h with
  | nil => cases hs
  | @cons p q _ _ a _ ih =>
    by_cases e : p.1 = nk s
    · rw [valV_pos e]
      obtain ⟨a1, t, a2, a3⟩ := a
      have := inj _ _ (a1.symm.trans e)
      rw [← this]
      exact ⟨t, by rw [a2], a3⟩
    · rw [valV_neg e]
      refine ih ((List.mem_cons.mp hs).resolve_left fun z => e ?_)
      rw [z, a.1]
theorem QD.none_of (inj : ∀ a b, nk a = nk b → a = b) (h : QD K H nk val kvs ks) {s : κ} (hs : s ∉ ks) : valV kvs (nk s) = none := by
  cases e : valV kvs (nk s) with
  | none => rfl
  | some v =>
    exfalso
    have h1 := valV_some.mp (show (valV kvs (nk s)).isSome = true by rw [e]; rfl)
    rw [h.keys] at h1
    obtain ⟨s', hs', e2⟩ := List.mem_map.mp h1
    exact hs (inj _ _ e2 ▸ hs')
theorem QD.put_new (inj : ∀ a b, nk a = nk b → a = b) (h : QD K H nk val kvs ks) {s : κ} (hs : s ∉ ks) {t : Addr} (ht : QT K H t (val' s)) (e : ∀ s' ∈ ks, val s' = val' s') : QD K H nk val' (putK kvs (nk s) (V.ref t)) (ks ++ [s]) := by
  have hno := h.none_of inj hs
  unfold putK
  rw [valV_any, hno, if_neg (by decide)]
  exact paired_app (h.congr e) (.cons ⟨rfl, t, rfl, ht⟩ .nil)
theorem QD.put_old (inj : ∀ a b, nk a = nk b → a = b) (h : QD K H nk val kvs ks) {s : κ} (hs : s ∈ ks) {t : Addr} (ht : QT K H t (val' s)) (e : ∀ s' ∈ ks, s' ≠ s → val s' = val' s') : QD K H nk val' (putK kvs (nk s) (V.ref t)) ks := by
  obtain ⟨t0, hv, _⟩ := h.val_of inj hs
  unfold putK
  rw [valV_any, hv, if_pos (show (some (V.ref t0)).isSome = true from rfl)]
  clear hv hs
  unfold QD at *
  induction h with
  | nil => exact .nil
  | @cons p q _ _ a _ ih =>
    rw [List.map_cons]
    refine .cons ?_ (ih fun s' hs' => e s' (List.mem_cons_of_mem _ hs'))
    obtain ⟨a1, t1, a2, a3⟩ := a
    by_cases c : p.1 = nk s
    · rw [if_pos c]
      have := inj _ _ (a1.symm.trans c)
      rw [← this] at ht
      exact ⟨a1, t, rfl, ht⟩
    · rw [if_neg c]
      refine ⟨a1, t1, a2, ?_⟩
      rw [← e q List.mem_cons_self (fun z => c (by rw [a1, z]))]
      exact a3
theorem QD.vals_at (h : QD K H nk val kvs ks) {j : Nat} {kv : NestedKey × V} (hj : kvs[j]? = some kv) : ∃ s t, ks[j]? = some s ∧ kv = (nk s, V.ref t) ∧ QT K H t (val s) := by
  obtain ⟨s, hs, e1, t, e2, e3⟩ := paired_get h hj
  exact ⟨s, t, hs, Prod.ext e1 e2, e3⟩
end
theorem nkQ_at {K : PySem.W.Frag} {H : Hp} {t : Addr} {q : Rat} (h : QT K H t q) : NkAt K H (.tup [.num q.num, .num (q.den : Int)]) (.ref t) := .tup h (.cons (.num _) (.cons (.num _) .nil))
/-- what has arrived at the sets -/
def LatD (K : PySem.W.Frag) (H : Hp) (w : Nat → Nat) (n : Nat) (kvs : List (NestedKey × V)) (E : List (List Nat × Nat)) : Prop := ∃ ks : List (List Nat), ks.Nodup ∧ (∀ S, S ∈ ks ↔ ∃ e ∈ E, thr e = S) ∧ QD K H nkT (sumS w n E) kvs ks
theorem nkT_inj2 (a b : List Nat) (h : nkT a = nkT b) : a = b := nkT_inj h
theorem LatD.mono {K : PySem.W.Frag} {H H' : Hp} {w : Nat → Nat} {n : Nat} {kvs : List (NestedKey × V)} {E : List (List Nat × Nat)} (m : ∀ a xs, SqT K H a xs → SqT K H' a xs) (h : LatD K H w n kvs E) : LatD K H' w n kvs E := by
  obtain ⟨ks, h1, h2, h3⟩ := h
  exact ⟨ks, h1, h2, h3.mono m⟩
theorem LatD.get {K : PySem.W.Frag} {H : Hp} {w : Nat → Nat} {n : Nat} {kvs : List (NestedKey × V)} {E : List (List Nat × Nat)} (h : LatD K H w n kvs E) (S : List Nat) {z : Addr} (hz : QT K H z 0) : ∃ t, (valV kvs (nkT S)).getD (V.ref z) = V.ref t ∧ QT K H t (sumS w n E S) := by
  obtain ⟨ks, h1, h2, h3⟩ := h
  by_cases c : S ∈ ks
  · obtain ⟨t, e, q⟩ := h3.val_of nkT_inj2 c
    exact ⟨t, by rw [e]; rfl, q⟩
  · have e := h3.none_of nkT_inj2 c
    refine ⟨z, by rw [e]; rfl, ?_⟩
    rw [sumS_zero fun e he z => c ((h2 S).mpr ⟨e, he, z⟩)]
    exact hz
theorem LatD.put {K : PySem.W.Frag} {H : Hp} {w : Nat → Nat} {n : Nat} {kvs : List (NestedKey × V)} {E : List (List Nat × Nat)} (h : LatD K H w n kvs E) (e : List Nat × Nat) {t : Addr} (ht : QT K H t (sumS w n E (thr e) + lvQ w n e.1 e.2)) : LatD K H w n (putK kvs (nkT (thr e)) (V.ref t)) (E ++ [e]) := by
  obtain ⟨ks, h1, h2, h3⟩ := h
  have hval : sumS w n (E ++ [e]) (thr e) = sumS w n E (thr e) + lvQ w n e.1 e.2 := by rw [sumS_snoc, if_pos rfl]
  rw [← hval] at ht
  by_cases c : thr e ∈ ks
  · refine ⟨ks, h1, fun S => ?_, h3.put_old nkT_inj2 c ht fun s' _ hne => by rw [sumS_snoc, if_neg hne]⟩
    rw [h2 S]
    constructor
    · rintro ⟨e', he', z⟩
      exact ⟨e', List.mem_append_left _ he', z⟩
    · rintro ⟨e', he', z⟩
      rcases List.mem_append.mp he' with he' | he'
      · exact ⟨e', he', z⟩
      · rw [List.mem_singleton.mp he'] at z
        rw [← z]
        exact (h2 _).mp c
  · refine ⟨ks ++ [thr e], ?_, fun S => ?_, h3.put_new nkT_inj2 c ht fun s' hs' => by rw [sumS_snoc, if_neg (fun z : s' = thr e => c (by rw [← z]; exact hs'))]⟩
    · exact List.nodup_append.mpr ⟨h1, List.nodup_cons.mpr ⟨List.not_mem_nil, List.nodup_nil⟩, fun a ha b hb e => c (by rw [← List.mem_singleton.mp hb, ← e]; exact ha)⟩
    · rw [List.mem_append, h2 S]
      constructor
      · rintro (⟨e', he', z⟩ | h)
        · exact ⟨e', List.mem_append_left _ he', z⟩
        · exact ⟨e, List.mem_append_right _ List.mem_cons_self, (List.mem_singleton.mp h).symm⟩
      · rintro ⟨e', he', z⟩
        rcases List.mem_append.mp he' with he' | he'
        · exact .inl ⟨e', he', z⟩
        · rw [List.mem_singleton.mp he'] at z
          exact .inr (List.mem_singleton.mpr z.symm)
theorem LatD.len {K : PySem.W.Frag} {H : Hp} {w : Nat → Nat} {n : Nat} {kvs : List (NestedKey × V)} {E : List (List Nat × Nat)} (h : LatD K H w n kvs E) : kvs.length ≤ E.length := by
  obtain ⟨ks, h1, h2, h3⟩ := h
  rw [h3.len, ← List.length_map (f := thr) (as := E)]
  refine subG_len h1 fun S hS => ?_
  obtain ⟨e, he, z⟩ := (h2 S).mp hS
  exact List.mem_map.mpr ⟨e, he, z⟩
/-! sorted by sets -/
def nkP (S : List Nat) (q : Rat) : NestedKey := .tup [nkT S, .tup [.num q.num, .num (q.den : Int)]]
def dQ (q : Rat) : PyData := .tuple [.int q.num, .int (q.den : Int)]
theorem nkP_data (S : List Nat) (q : Rat) : (nkP S q).data = .tuple [.tuple (natD S), dQ q] := by
  unfold nkP nkT dQ
  simp only [NestedKey.data, NestedKey.datas]
  rw [nums_datas]
theorem nLeP_lt (a b : NestedKey) : nLe a b = !PySem.W.dataLt b.data a.data := rfl
theorem nLeP_ord : PySem.W.TotalLe nLe := by
  unfold nLe
  exact PySem.W.sortLe_total _ false _
theorem alike_q (p q : Rat) : PySem.W.alike (dQ p) (dQ q) = true := by
  unfold dQ
  simp only [PySem.W.alike, PySem.W.alikeAll]
  rfl
theorem alike_S (a b : List Nat) : PySem.W.alike (.tuple (natD a)) (.tuple (natD b)) = true := by
  rw [natD_int, natD_int]
  exact PySem.W.alike_ints _ _
theorem nkP_le {S S' : List Nat} {p q : Rat} (h : S ≠ S') : nLe (nkP S p) (nkP S' q) = true ↔ LexLe S S' := by
  rw [nLeP_lt, nkP_data, nkP_data, PySem.W.dataLt_pair (alike_S _ _) (alike_q _ _), eqv_natT, if_neg (fun z => h (of_decide_eq_true z).symm), natD_int, natD_int, PySem.W.dataLt_tuple]
  unfold LexLe
  have e := PySem.W.dataLt_ints (intL S') (intL S)
  show (!PySem.W.rowLt ((intL S').map PyData.int) ((intL S).map PyData.int)) = true ↔ _
  rw [e]
  constructor
  · intro z
    have : decide (intL S' < intL S) = false := by simpa using z
    exact of_decide_eq_false this
  · intro z
    rw [decide_eq_false z]
    rfl
theorem sortP {n k : Nat} {ks : List (List Nat)} (f : List Nat → Rat) (pm : ks.Perm (combs (List.range' 0 n) k)) : (ks.map fun S => nkP S (f S)).mergeSort nLe = (combs (List.range' 0 n) k).map fun S => nkP S (f S) := by
  have nd : (combs (List.range' 0 n) k).Nodup := combsNodup _ _ (asc_nodup (asc_range' n 0))
  refine List.Perm.eq_of_pairwise (le := fun a b => nLe a b = true) (fun a b ha hb l1 l2 => ?_) (List.pairwise_mergeSort (fun a b c h1 h2 => nLeP_ord.trans a b c h1 h2) (fun a b => (Bool.or_eq_true _ _).mpr (nLeP_ord.total a b)) _) (List.pairwise_map.mpr (((combs_lex _ k (asc_range' n 0)).and nd).imp fun {a b} z => (nkP_le z.2).mpr z.1)) ((List.mergeSort_perm _ _).trans (pm.map _))
  obtain ⟨S, _, rfl⟩ := List.mem_map.mp ((List.mergeSort_perm _ _).mem_iff.mp ha)
  obtain ⟨S', _, rfl⟩ := List.mem_map.mp hb
  by_cases c : S = S'
  · rw [c]
  · exact absurd (((nkP_le c).mp l1).anti ((nkP_le (fun z => c z.symm)).mp l2)) c
theorem alikeA_S (a b : List Nat) : PySem.W.alikeAll (natD a) (natD b) = true := by
  have := alike_S a b
  simpa only [PySem.W.alike] using this
theorem nkP_alike (ks : List (List Nat)) (f : List Nat → Rat) : PySem.W.AllAlike ((ks.map fun S => nkP S (f S)).map NestedKey.data) := by
  intro d hd d' hd'
  obtain ⟨k, hk, rfl⟩ := List.mem_map.mp hd
  obtain ⟨k', hk', rfl⟩ := List.mem_map.mp hd'
  obtain ⟨S, _, rfl⟩ := List.mem_map.mp hk
  obtain ⟨S', _, rfl⟩ := List.mem_map.mp hk'
  rw [nkP_data, nkP_data]
  simp only [PySem.W.alike, PySem.W.alikeAll, alikeA_S, alike_q]
  rfl
theorem nkP_sortable (ks : List (List Nat)) (f : List Nat → Rat) : PySem.W.Sortable ((ks.map fun S => nkP S (f S)).map NestedKey.data) := .inl fun d hd => by
  obtain ⟨k, hk, rfl⟩ := List.mem_map.mp hd
  obtain ⟨S, _, rfl⟩ := List.mem_map.mp hk
  rw [nkP_data]
  exact ⟨_, _, rfl⟩
theorem nkP_depth (ks : List (List Nat)) (f : List Nat → Rat) : ∀ k ∈ ks.map fun S => nkP S (f S), k.data.depth ≤ 20 := fun k hk => by
  obtain ⟨S, _, rfl⟩ := List.mem_map.mp hk
  rw [nkP_data]
  unfold dQ
  rw [natD_int]
  simp only [PyData.depth, PyData.depthAll, PySem.W.depth_ints]
  decide
/-! what is no dict stays -/
def KpE (H H' : Hp) : Prop := ∀ x o, H x = some o → (∀ φ, o ≠ HO.ext φ) → H' x = some o
theorem KpE.refl (H : Hp) : KpE H H := fun _ _ h _ => h
theorem KpE.trans {H H1 H2 : Hp} (a : KpE H H1) (b : KpE H1 H2) : KpE H H2 := fun x o h n => b x o (a x o h n) n
theorem KpE.of {H H' : Hp} (s : Same H H') : KpE H H' := fun x o h _ => s x o h
theorem KpE.dict {H H1 : Hp} {D : Addr} {φ : Heap → Prop} {u : HO} (a : KpE H H1) (h : H1 D = some (.ext φ)) : KpE H (upd H1 D u) := fun x o e n => by
  have e1 := a x o e n
  rw [upd_ne (fun z => by rw [z, h] at e1; exact n φ (Option.some.inj e1).symm)]
  exact e1
theorem KpE.keep {H H1 : Hp} {D : Addr} {u : HO} (a : KpE H H1) (h : H D = none) : KpE H (upd H1 D u) := fun x o e n => by
  rw [upd_ne (fun z => by rw [z, h] at e; cases e)]
  exact a x o e n
theorem KpE.seqT {K : PySem.W.Frag} {H H' : Hp} (k : KpE H H') {a : Addr} {xs : List V} (h : SqT K H a xs) : SqT K H' a xs := by
  rcases h with (h | ⟨o, h⟩) | h
  · exact .inl (.inl (k _ _ h fun φ z => by cases z))
  · exact .inl (.inr ⟨o, k _ _ h fun φ z => by cases z⟩)
  · exact .inr h
theorem KpE.lst {H H' : Hp} (k : KpE H H') {a : Addr} {xs : List V} (h : H a = some (.lst xs)) : H' a = some (.lst xs) := k _ _ h fun φ z => by cases z
theorem DAt.updE {P : Program} {w : World} {K : PySem.W.Frag} {H : Hp} {d D : Addr} {kvs : List (NestedKey × V)} {φ : Heap → Prop} {u : HO} (h : DAt P w K H d kvs) (hD : H D = some (.ext φ)) (n : d ≠ D) : DAt P w K (upd H D u) d kvs := by
  obtain ⟨xs, e, hx, rfl⟩ := h
  exact ⟨xs, by rw [upd_ne n]; exact e, fun x hx2 => ⟨NkAt.mono (fun a zs h => SqT_updE h hD) _ _ (hx x hx2).1, (hx x hx2).2⟩, rfl⟩
theorem dsame_upd {H H1 : Hp} {D : Addr} {u : HO} (s : Same H H1) (n : H D = none) : Same H (upd H1 D u) := fun x o e => by
  rw [upd_ne (fun z => by rw [z, n] at e; cases e)]
  exact s x o e
/-! ### the law's common divisor -/
def spCommon : Sp := fun vs H Q _ => ∃ a b : Nat, vs = [.int a, .int b] ∧ Q (.int (Nat.gcd a b : Nat)) H
def WCommon (a b : Nat) (H : Hp) (m : Nat) (σ : L2.St) (H' : Hp) : Prop := ∃ x y : Nat, σ = [some (.int x), some (.int y)] ∧ H' = H ∧ Nat.gcd x y = Nat.gcd a b ∧ m = y
theorem common_turn (x y : Nat) : Nat.gcd y (x % y) = Nat.gcd x y := by
  rw [Nat.gcd_comm x y, Nat.gcd_rec y x, Nat.gcd_comm]
section
variable {P : Program} {w : World} {K : PySem.W.Frag} {mg : Str → Option Value} {base : Heap}
theorem ok_common (T : Txt K mg) {j : Nat} : FnOk P w K mg base CX0 (j + 1) T.fCommon T.fdCommon ["_law_one", "_law_other"] spCommon := by
  refine T.FCommon.ok scCommon (fun vs H Q E h => ?_) (fun cdv A outer s H vs Q E hr h => ?_)
  · obtain ⟨a, b, rfl, _⟩ := h
    rfl
  · obtain ⟨a, b, rfl, q⟩ := h
    refine ⟨_, pss_cons (ps_while PassesOwn.never (pt_cmpR op_gt (pv 1) pe_int (nomark _)) (pss_one (ps_par (i := 0) (j := 1) rfl scCommon.nd rfl rfl (by decide) rfl rfl (pa_cons (pv 1) (pa_cons (pe_op op_mod (pv 0) (pv 1)) pa_nil)) (by rfl))))
      (pss_one (ps_ret (pv 0))), ?_⟩
    refine ⟨WCommon a b H, ⟨b, a, b, rfl, rfl, rfl, rfl⟩, ?_⟩
    rintro m σ H' ⟨x, y, rfl, rfl, hg, rfl⟩
    refine ⟨_, rfl, _, _, rfl, rfl, _, rfl, ite2 (fun h1 => ?_) (fun h1 => ?_)⟩
    · have h0 : (0 : Int) < (m : Int) := of_decide_eq_true h1
      refine ⟨WCommon a b H' (x % m), fun σ' H'' hw => ⟨x % m, Nat.mod_lt _ (by omega), hw⟩, ?_⟩
      refine ⟨_, rfl, _, rfl, _, rfl, _, _, rfl, rfl, h0, _, _, rfl, m, x % m, ?_, rfl, by rw [common_turn]; exact hg, rfl⟩
      rw [Int.natCast_emod]
      rfl
    · have h0 : m = 0 := by
        have h2 : ¬ (0 : Int) < (m : Int) := fun z => h1 (decide_eq_true z)
        omega
      subst h0
      rw [Nat.gcd_zero_right] at hg
      rw [← hg] at q
      exact ⟨_, rfl, q⟩
end
/-! ### the law's fractions -/
theorem q_num_nat {q : Rat} (h : 0 ≤ q) : ∃ m : Nat, q.num = (m : Int) := Int.eq_ofNat_of_zero_le (Rat.num_nonneg.mpr h)
def spAdded (K : PySem.W.Frag) : Sp := fun vs H Q _ => ∃ (a b : Addr) (p q : Rat), vs = [.ref a, .ref b] ∧ QT K H a p ∧ QT K H b q ∧ 0 ≤ p ∧ 0 ≤ q ∧ QB p 3000 ∧ QB q 3000 ∧ ∀ H' t, Same H H' → H t = none → H' t = some (.tup [.int (p + q).num, .int ((p + q).den : Int)]) → Q (.ref t) H'
theorem q_sum {p q : Rat} {m n : Nat} (hm : p.num = (m : Int)) (hn : q.num = (n : Int)) : (((m * q.den + n * p.den : Nat) : Rat) / ((p.den * q.den : Nat) : Rat)) = p + q := by
  have hp := q_is p
  have hq := q_is q
  rw [hm] at hp
  rw [hn] at hq
  have g1 : ((p.den : Nat) : Rat) ≠ 0 := by exact_mod_cast (Nat.ne_of_gt p.den_pos)
  have g2 : ((q.den : Nat) : Rat) ≠ 0 := by exact_mod_cast (Nat.ne_of_gt q.den_pos)
  push_cast
  have hp2 : p = (m : Rat) / ((p.den : Nat) : Rat) := hp
  have hq2 : q = (n : Rat) / ((q.den : Nat) : Rat) := hq
  generalize ((p.den : Nat) : Rat) = d at *
  generalize ((q.den : Nat) : Rat) = e at *
  generalize ((m : Nat) : Rat) = m' at *
  generalize ((n : Nat) : Rat) = n' at *
  rw [hp2, hq2]
  grind
section
variable {P : Program} {w : World} {K : PySem.W.Frag} {mg : Str → Option Value} {base : Heap}
theorem ok_cut (T : Txt K mg) {j : Nat} : FnOk P w K mg base CX0 (j + 2) T.fCut T.fdCut ["_law_top", "_law_bottom"] (spShare K) := by
  refine T.FCut.ok scCut (fun vs H Q E h => ?_) (fun cdv A outer s H vs Q E hr h => ?_)
  · obtain ⟨a, b, rfl, _⟩ := h
    rfl
  · obtain ⟨a, b, rfl, hb, hb2, ha2, q⟩ := h
    refine ⟨_, pss_cons (ps_set (i := 2) scCut.nd rfl (.inl rfl) (pe_call (ok_common T) hr (by rfl) T.gCommon T.FCommon.kp T.bCommon .nil pass0 (pa_cons (pv 0) (pa_cons (pv 1) pa_nil)))) (pss_one (ps_ret (pe_tup (pa_cons (pe_op op_fdivW (pv 0) (pv 2)) (pa_cons (pe_op op_fdivW (pv 1) (pv 2)) pa_nil))))), ?_⟩
    have g0 : 0 < Nat.gcd a b := Nat.gcd_pos_of_pos_right a hb
    have g1 : Nat.gcd a b ≤ b := Nat.gcd_le_right a hb
    refine ⟨_, rfl, _, rfl, a, b, rfl, ?_⟩
    dsimp only [gName]
    have gw : (((Nat.gcd a b : Nat) : Int)).natAbs < 2 ^ 8000 := by rw [Int.natAbs_natCast]; exact Nat.lt_of_le_of_lt g1 hb2
    refine ⟨_, rfl, _, rfl, _, _, rfl, rfl, wide_div (b := 8000) (Int.ofNat_lt.mpr g0) gw (by decide) (by decide), _, rfl, _, rfl, _, _, rfl, rfl, wide_div (b := 8000) (Int.ofNat_lt.mpr g0) gw (by decide) (by decide), by show 2 ≤ sizeLine; decide, fun t nt => ?_⟩
    refine q _ t (same_new nt) nt ?_
    rw [upd_same, cut_num a b hb, cut_den a b hb, Int.natCast_ediv, Int.natCast_ediv]
theorem ok_added (T : Txt K mg) {j : Nat} : FnOk P w K mg base CX0 (j + 3) T.fAdded T.fdAdded ["_law_one", "_law_other"] (spAdded K) := by
  refine T.FAdded.ok scAdded (fun vs H Q E h => ?_) (fun cdv A outer s H vs Q E hr h => ?_)
  · obtain ⟨a, b, p, q, rfl, _⟩ := h
    rfl
  · obtain ⟨a, b, p, r, rfl, hA, hB, p0, r0, pb, rb, q⟩ := h
    refine ⟨_, pss_one (ps_ret (pe_call (ok_cut T) hr (by rfl) T.gCut T.FCut.kp T.bCut .nil pass0 (pa_cons (pe_op op_add (pe_op op_mulW (pe_ix (ix_tupK K) (pv 0) pe_int (fun _ _ => rfl)) (pe_ix (ix_tupK K) (pv 1) pe_int (fun _ _ => rfl))) (pe_op op_mulW (pe_ix (ix_tupK K) (pv 1) pe_int (fun _ _ => rfl)) (pe_ix (ix_tupK K) (pv 0) pe_int (fun _ _ => rfl)))) (pa_cons (pe_op op_mulW (pe_ix (ix_tupK K) (pv 0) pe_int (fun _ _ => rfl)) (pe_ix (ix_tupK K) (pv 1) pe_int (fun _ _ => rfl))) pa_nil)))), ?_⟩
    unfold QT at hA hB
    obtain ⟨m, hm⟩ := q_num_nat p0
    obtain ⟨n, hn⟩ := q_num_nat r0
    have es := q_sum hm hn
    obtain ⟨pb1, pb2⟩ := pb
    obtain ⟨rb1, rb2⟩ := rb
    have pd := p.den_pos
    have rd := r.den_pos
    rw [hm] at hA pb1
    rw [hn] at hB rb1
    rw [Int.natAbs_natCast] at pb1 rb1
    generalize p.den = d at *
    generalize r.den = e at *
    have mw : ∀ x y : Nat, x < 2 ^ 3000 → y < 2 ^ 3000 → CMulW (x : Int) (y : Int) := fun x y hx hy => wide_mul (a := 3000) (b := 3000) (by rw [Int.natAbs_natCast]; exact hx) (by rw [Int.natAbs_natCast]; exact hy) (by decide) (by decide) (by decide)
    have ml : ∀ x y : Nat, x < 2 ^ 3000 → y < 2 ^ 3000 → x * y < 2 ^ 6000 := fun x y hx hy => by
      rw [show (6000 : Nat) = 3000 + 3000 from rfl, Nat.pow_add]
      exact Nat.mul_lt_mul'' hx hy
    refine ⟨.ref a, rfl, a, _, _, _, rfl, rfl, hA, rfl, .ref b, rfl, b, _, _, _, rfl, rfl, hB, rfl, _, _, rfl, rfl, mw m e pb1 rb2, .ref b, rfl, b, _, _, _, rfl, rfl, hB, rfl, .ref a, rfl, a, _, _, _, rfl, rfl, hA, rfl, _, _, rfl, rfl, mw n d rb1 pb2, _, _, rfl, rfl, ?_⟩
    refine ⟨.ref a, rfl, a, _, _, _, rfl, rfl, hA, rfl, .ref b, rfl, b, _, _, _, rfl, rfl, hB, rfl, _, _, rfl, rfl, mw d e pb2 rb2, m * e + n * d, d * e, ?_, Nat.mul_pos pd rd, bits_up (ml d e pb2 rb2) (by decide), ?_, fun H' t s1 nt ht => ?_⟩
    · rw [Int.natCast_add, Int.natCast_mul, Int.natCast_mul, Int.natCast_mul]
      rfl
    · have h1 := ml m e pb1 rb2
      have h2 := ml n d rb1 pb2
      refine Nat.lt_of_lt_of_le (Nat.add_lt_add h1 h2) ?_
      rw [← Nat.two_mul, ← Nat.pow_succ']
      exact Nat.pow_le_pow_right (by decide) (by decide)
    · rw [es] at ht
      exact q H' t s1 nt ht
end
/-! ### all level shares of weights -/
def spShs (P : Program) (w : World) (K : PySem.W.Frag) : Sp := fun vs H Q _ => ∃ (a : Addr) (ws : List Nat), vs = [.ref a] ∧ SqT K H a (setV ws) ∧ WtOk ws ∧ 1 ≤ ws.length ∧ ws.length ≤ 6 ∧
  ∀ H' d kvs, Same H H' → H d = none → DAt P w K H' d kvs → QD K H' nkE (lvE (wf ws) ws.length) kvs (allD ws.length ws.length) → Q (.ref d) H'
theorem lvE_pos {ws : List Nat} (hw : WtOk ws) {n k : Nat} {e : List Nat × Nat} (hk : k < n) (h : e ∈ dueE n k) : 0 < lvE (wf ws) n e := by
  obtain ⟨g1, g2, g3, g4, g5⟩ := due_in h
  exact lv_pos hw.pos (asc_nodup g1) g3 (by omega)
theorem wf_small {ws : List Nat} (hw : WtOk ws) (x : Nat) : wf ws x < 2 ^ 13 := by
  have := hw.le x
  omega
theorem wS_small {ws : List Nat} (hw : WtOk ws) {L : List Nat} (h : L.length ≤ 6) : wS (wf ws) L < 2 ^ 13 := by
  have := wS_le hw L
  omega
theorem SqT.pair {K : PySem.W.Frag} {H : Hp} {k1 k2 : NestedKey} {v : V} (h : NkAt K H (.tup [k1, k2]) v) : ∃ t x y, v = .ref t ∧ SqT K H t [x, y] ∧ NkAt K H k1 x ∧ NkAt K H k2 y := by
  cases h with
  | tup h1 h2 =>
    cases h2 with
    | cons a h2 =>
      cases h2 with
      | cons b h2 =>
        cases h2
        exact ⟨_, _, _, rfl, h1, a, b⟩
theorem nkT_inv {K : PySem.W.Frag} {H : Hp} {S : List Nat} {v : V} (h : NkAt K H (nkT S) v) : ∃ t, v = .ref t ∧ SqT K H t (setV S) := by
  unfold nkT at h
  cases h with
  | @tup a xs _ h1 h2 =>
    refine ⟨a, rfl, ?_⟩
    have : ∀ (S : List Nat) (xs : List V), NkAll K H (S.map fun (m : Nat) => NestedKey.num (m : Int)) xs → xs = setV S := by
      intro S
      induction S with
      | nil =>
        intro xs h
        cases h
        rfl
      | cons m S ih =>
        intro xs h
        cases h with
        | cons h1 h2 =>
          cases h1
          rw [ih _ h2]
          rfl
    rw [this S xs h2] at h1
    exact h1
theorem nkQ_inv {K : PySem.W.Frag} {H : Hp} {q : Rat} {v : V} (h : NkAt K H (.tup [.num q.num, .num (q.den : Int)]) v) : ∃ t, v = .ref t ∧ QT K H t q := by
  obtain ⟨t, x, y, rfl, h1, h2, h3⟩ := SqT.pair h
  cases h2
  cases h3
  exact ⟨t, rfl, h1⟩
theorem due_flat (n k : Nat) : dueE n k = (combs (List.range' 0 n) k).flatMap fun S => (cp n S).map fun x => (S, x) := rfl
theorem edge_inj (a b : Edge) (h : nkE a = nkE b) : a = b := nkE_inj a b h
section
variable {P : Program} {w : World} {K : PySem.W.Frag} {mg : Str → Option Value} {base : Heap}
theorem ok_shs (T : Txt K mg) {j : Nat} : FnOk P w K mg base CX0 (j + 4) T.fShs T.fdShs ["_law_weights_here"] (spShs P w K) := by
  refine T.FShs.ok scShs (fun vs H Q E h => ?_) (fun cdv A outer s H vs Q E hr h => ?_)
  · obtain ⟨a, ws, rfl, _⟩ := h
    rfl
  · obtain ⟨a, ws, rfl, hA, hw, hl1, hl, q⟩ := h
    have hu64 : (A.deeper (envOfC "_law_shares" (defScope sShs) s.heap.objs.size T.fShs cdv)).units + 64 < cLine := by
      have := hr.un
      omega
    have hu9 : (A.deeper (envOfC "_law_shares" (defScope sShs) s.heap.objs.size T.fShs cdv)).units + 9 < cLine := by omega
    refine ⟨_, pss_cons (ps_par3 (i := 1) (j := 2) (l := 3) rfl scShs.nd rfl rfl rfl (by decide) (by decide) (by decide) rfl rfl rfl (pa_cons (pe_callB (call_lenK K) (by rfl) T.n_len PySem.boot_len (pa_cons (pv 0) pa_nil)) (pa_cons (pe_dispN (P := P) (w := w) K (pe_tup pa_nil) (pe_tup (pa_cons pe_int (pa_cons pe_int pa_nil))) hu9) (pa_cons (pe_dnewN (P := P) (w := w)) pa_nil))) (by rfl)) (pss_cons (ps_for PassesOwn.never rfl (pi_range1 (by rfl) T.n_range (pa_cons (pv 1) pa_nil)) (pg_name (i := 4) scShs.nd rfl (.inl rfl)) (pss_cons (ps_set (i := 5) scShs.nd rfl (.inl rfl) (pe_dnewN (P := P) (w := w))) (pss_cons (ps_for PassesOwn.never rfl (pi_list (pe_callB (cr_sortItN (P := P) (w := w) K rfl hu64) (by rfl) T.n_sorted (by decide +kernel) (pa_cons (pe_itemsN (P := P) (w := w) (pv 2)) pa_nil))) (pg_tup rfl (pgs_cons (pg_name (i := 6) scShs.nd rfl (.inr rfl)) (pgs_cons (pg_name (i := 7) scShs.nd rfl (.inl rfl)) pgs_nil))) (pss_cons (ps_setLc (i := 8) (own := [("_law_server", 9)]) (g := (gName 9)) rfl scShs.nd rfl rfl (sw_true rfl rfl rfl (by decide +kernel)) (pi_range1 (by rfl) T.n_range (pa_cons (pv 1) pa_nil)) (blkOk_by (own := [("_law_server", 9)]) (N := NShs) (sc := defScope sShs) (by decide +kernel)) (fun _ _ _ _ _ => (pg_name (i := 9) scShs.nd rfl (.inl rfl))) (fun _ _ _ _ _ => pts_one (pt_cmpR (op_notInK K) (pv 9) (pv 6) (by rfl))) (fun _ _ _ _ _ => (pv 9))) (pss_cons (ps_set (i := 10) scShs.nd rfl (.inl rfl) (pe_callB (cr_sumK K) (by rfl) T.n_sum (by decide +kernel) (pa_cons (pe_lc (own := [("_law_server", 9)]) (g := (gName 9)) (tt := tYes) rfl scShs.nd (pi_list (pv 8)) (blkOk_by (own := [("_law_server", 9)]) (N := NShs) (sc := defScope sShs) (by decide +kernel)) (fun _ _ _ _ _ => (pg_name (i := 9) scShs.nd rfl (.inl rfl))) (fun _ _ _ _ _ => pts_nil) (fun _ _ _ _ _ => (pe_ix (ix_tupK K) (pv 0) (pv 9) (fun _ _ => rfl)))) pa_nil))) (pss_one (ps_for PassesOwn.never rfl (pi_list (pv 8)) (pg_name (i := 9) scShs.nd rfl (.inl rfl)) (pss_cons (ps_set (i := 11) scShs.nd rfl (.inl rfl) (pe_call (ok_cut T) hr (by rfl) T.gCut T.FCut.kp T.bCut .nil pass0 (pa_cons (pe_op op_mulW (pe_ix (ix_tupK K) (pv 7) pe_int (fun _ _ => rfl)) (pe_ix (ix_tupK K) (pv 0) (pv 9) (fun _ _ => rfl))) (pa_cons (pe_op op_mulW (pe_ix (ix_tupK K) (pv 7) pe_int (fun _ _ => rfl)) (pv 10)) pa_nil)))) (pss_cons (ps_set (i := 12) scShs.nd rfl (.inl rfl) (pe_callTy (call_tupleK K) (by rfl) T.n_tuple (by decide +kernel) (pa_cons (pe_callB (cr_sortTI K) (by rfl) T.n_sorted (by decide +kernel) (pa_cons (pe_op (op_catS K) (pv 6) (pe_tup (pa_cons (pv 9) pa_nil))) pa_nil)) pa_nil))) (pss_cons (ps_asg (pv 11) (pg_sub (pv 3) (pe_tup (pa_cons (pv 6) (pa_cons (pv 9) pa_nil))) (set_dN (P := P) (w := w) K hu9))) (pss_one (ps_asg (pe_call (ok_added T) hr (by rfl) T.gAdded T.FAdded.kp T.bAdded .nil pass0 (pa_cons (pe_bmN (P := P) (w := w) PySem.F.slot_dict_get PySem.F.type_dict_get (mt_getDN (P := P) (w := w) K hu9) (pv 5) (pa_cons (pv 12) (pa_cons (pe_tup (pa_cons pe_int (pa_cons pe_int pa_nil))) pa_nil))) (pa_cons (pv 11) pa_nil))) (pg_sub (pv 5) (pv 12) (set_dN (P := P) (w := w) K hu9)))))))))))) (pss_one (ps_set (i := 2) scShs.nd rfl (.inl rfl) (pv 5)))))) (pss_one (ps_ret (pv 3)))), ?_⟩
    have hn : ws.length ≤ 6 := hl
    generalize hN : ws.length = n at *
    refine ⟨.ref a, rfl, _, _, rfl, .inr hA, fun dc ndc => ?_⟩
    have s1 := same_new (o := DN P w dc []) ndc
    have hd1 : (upd H dc (DN P w dc [])) dc = some (DN P w dc []) := upd_same
    generalize upd H dc (DN P w dc []) = H1 at s1 hd1
    refine ⟨Nat.zero_le _, fun te nte => ⟨by show 2 ≤ sizeLine; decide, fun tq ntq => ?_⟩⟩
    have s2 : Same H1 (upd (upd H1 te (.tup [])) tq (.tup [V.int 1, V.int 1])) := (same_new nte).trans (same_new ntq)
    have hte : (upd (upd H1 te (.tup [])) tq (.tup [V.int 1, V.int 1])) te = some (.tup []) := (same_new ntq) _ _ upd_same
    have htq : (upd (upd H1 te (.tup [])) tq (.tup [V.int 1, V.int 1])) tq = some (.tup [V.int 1, V.int 1]) := upd_same
    generalize upd (upd H1 te (.tup [])) tq (.tup [V.int 1, V.int 1]) = H2 at s2 hte htq
    have hd2 := s2 _ _ hd1
    refine ⟨te, nkT [], rfl, nkT_at (SqT.of hte), nkT_depth _, hd2, fun u hD => ?_⟩
    have s3 : Same H (upd H2 dc u) := dsame_upd (s1.trans s2) ndc
    have htq3 : SqT K (upd H2 dc u) tq [V.int 1, V.int 1] := SqT_updE (SqT.of htq) hd2
    generalize upd H2 dc u = H3 at hD s3 htq3
    intro df ndf
    have s4 := same_new (o := DN P w df []) ndf
    have hdf : DAt P w K (upd H3 df (DN P w df [])) df [] := ⟨[], upd_same, fun x hx => absurd hx List.not_mem_nil, rfl⟩
    have hD4 := hD.same s4
    have ht4 := Same.seqT s4 htq3
    have ndf0 := s3.free ndf
    have ne1 : df ≠ dc := fun z => by
      obtain ⟨φ, e⟩ := hD.ext
      rw [z, e] at ndf
      cases ndf
    have s5 := s3.trans s4
    generalize upd H3 df (DN P w df []) = H4 at s5 hdf hD4 ht4
    refine ⟨_, _, _, rfl, ?_⟩
    rw [show (setV ws).length = n by rw [setV_len, hN]]
    refine ⟨_, rfl, _, rfl, by omega, by omega, ?_⟩
    refine for_range (lo := 0) (n := ((n : Nat) : Int).toNat) (fun k σ H3 => ∃ (dc : Addr) (kvC kvF : List (NestedKey × V)) (v4 v5 v6 v7 v8 v9 v10 v11 v12 : Option V), σ = [some (.ref a), some (.int (n : Int)), some (.ref dc), some (.ref df), v4, v5, v6, v7, v8, v9, v10, v11, v12] ∧ Same H H3 ∧ H dc = none ∧ df ≠ dc ∧ DAt P w K H3 dc kvC ∧ DAt P w K H3 df kvF ∧ QD K H3 nkE (lvE (wf ws) n) kvF (allD n k) ∧ (k < n → ∃ ks : List (List Nat), ks.Perm (combs (List.range' 0 n) k) ∧ QD K H3 nkT (pcQ (wf ws) n) kvC ks)) ?_ ?_ ?_
    · refine ⟨dc, [(nkT [], .ref tq)], [], none, none, none, none, none, none, none, none, none, rfl, s5, ndc, ne1, hD4, hdf, .nil, fun _ => ⟨[[]], ?_, .cons ⟨rfl, tq, rfl, ?_⟩ .nil⟩⟩
      · rw [combs_zero]
      · have hp : 0 < wS (wf ws) (cp n []) := cp_wpos hw.pos List.nodup_nil (fun x hx => absurd hx List.not_mem_nil) (by show 0 < n; omega)
        rw [chance_nil hp]
        exact ht4
    · rintro k σ H3 hk ⟨dc, kvC, kvF, v4, v5, v6, v7, v8, v9, v10, v11, v12, rfl, s3, ndc, ne1, hC, hF, qF, hks⟩
      rw [Int.toNat_natCast] at hk
      obtain ⟨ks, pm, qC⟩ := hks hk
      rw [Int.zero_add]
      dsimp only [gName]
      intro dl ndl
      have sL := same_new (o := DN P w dl []) ndl
      have hL : DAt P w K (upd H3 dl (DN P w dl [])) dl [] := ⟨[], upd_same, fun x hx => absurd hx List.not_mem_nil, rfl⟩
      have hC4 := hC.same sL
      have hF4 := hF.same sL
      have qF4 := qF.same sL
      have qC4 := qC.same sL
      have ndl0 := s3.free ndl
      have ne2 : df ≠ dl := fun z => by
        obtain ⟨φ, e⟩ := hF.ext
        rw [← z, e] at ndl
        cases ndl
      have s4 := s3.trans sL
      generalize upd H3 dl (DN P w dl []) = H4 at s4 hL hC4 hF4 qF4 qC4
      clear sL hC hF qF qC
      obtain ⟨xsC, eC, hxC, eK⟩ := id hC4
      refine ⟨_, rfl, dc, xsC, rfl, eC, fun pv npv => ?_⟩
      have sv := same_new (o := viewO "dict_items" pv dc) npv
      refine ⟨pv, dc, kvC, ks.map fun S => nkP S (pcQ (wf ws) n S), rfl, upd_same, hC4.same sv, by rw [List.length_map, qC4.len], fun j kv k' hj hkj => ?_, nkP_alike _ _, nkP_sortable _ _, nkP_depth _ _, fun H5 pl us s5 npl hpl pus => ?_⟩
      · obtain ⟨S, t, hS, rfl, hq⟩ := qC4.vals_at hj
        rw [List.getElem?_map, hS] at hkj
        obtain rfl := Option.some.inj hkj
        exact ⟨_, rfl, nkQ_at (hq.same sv)⟩
      rw [sortP _ pm] at pus
      have s45 := sv.trans s5
      clear sv s5
      have hL5 := hL.same s45
      have hF5 := hF4.same s45
      have qF5 := qF4.same s45
      have s6 := s4.trans s45
      have npl0 : H pl = none := s4.free ((same_new (o := viewO "dict_items" pv dc) npv).free npl)
      clear hC4 hL hF4 qF4 qC4 s45 eC hxC
      have ul := PySem.Paired.length pus
      rw [List.length_map] at ul
      refine ⟨pl, rfl, ⟨_, SqL.of hpl⟩, ?_⟩
      refine for_list (K := K) (a := pl) (xs := us) (fun z σ H6 => ∃ (kvL kvF : List (NestedKey × V)) (v6 v7 v8 v9 v10 v11 v12 : Option V), σ = [some (.ref a), some (.int (n : Int)), some (.ref dc), some (.ref df), some (.int (k : Int)), some (.ref dl), v6, v7, v8, v9, v10, v11, v12] ∧ Same H H6 ∧ KpE H5 H6 ∧ DAt P w K H6 dl kvL ∧ DAt P w K H6 df kvF ∧ LatD K H6 (wf ws) n kvL (((combs (List.range' 0 n) k).take z).flatMap fun S => (cp n S).map fun x => (S, x)) ∧ QD K H6 nkE (lvE (wf ws) n) kvF (allD n k ++ (((combs (List.range' 0 n) k).take z).flatMap fun S => (cp n S).map fun x => (S, x)))) ?_ ?_ ?_ ?_
      · refine ⟨[], kvF, v6, v7, v8, v9, v10, v11, v12, rfl, s6, KpE.refl _, hL5, hF5, ⟨[], List.nodup_nil, fun S => ⟨fun h => absurd h List.not_mem_nil, fun ⟨e, he, _⟩ => absurd he List.not_mem_nil⟩, .nil⟩, ?_⟩
        rw [List.take_zero, List.flatMap_nil, List.append_nil]
        exact qF5
      · rintro z σ H6 _ ⟨_, _, _, _, _, _, _, _, _, _, _, k6, _⟩
        exact SqL.of (k6.lst hpl)
      · rintro z v σ H6 hz ⟨kvL, kvF, v6, v7, v8, v9, v10, v11, v12, rfl, s6, k6, hL6, hF6, qL6, qF6⟩
        obtain ⟨kk, hkk, nk⟩ := paired_get pus hz
        rw [List.getElem?_map] at hkk
        obtain ⟨S, hS, rfl⟩ := Option.map_eq_some_iff.mp hkk
        obtain ⟨t, x1, x2, rfl, ht, n1, n2⟩ := SqT.pair nk
        obtain ⟨tm, rfl, hm⟩ := nkT_inv n1
        obtain ⟨tc, rfl, hc⟩ := nkQ_inv n2
        obtain ⟨g1, g2⟩ := combs_good _ _ S (List.mem_of_getElem? hS)
        have aS := (asc_range' n 0).sublist g2
        have hSn : ∀ y ∈ S, y < n := fun y hy => mem_range0.mp (g2.subset hy)
        have hSl : S.length < n := by omega
        have hpp := cp_wpos (w := wf ws) hw.pos (asc_nodup aS) hSn hSl
        have hcl := cp_len (asc_nodup aS) hSn
        have ppos := pc_pos (w := wf ws) hw.pos _ S rfl (asc_nodup aS) hSn hSl
        have pqb := qb_pc (w := wf ws) hw.pos (wS_small hw (by rw [List.length_range']; omega)) hl (asc_nodup aS) hSn hSl
        have Esub : ((((combs (List.range' 0 n) k).take z).flatMap fun S => (cp n S).map fun x => (S, x)) ++ (cp n S).map fun x => (S, x)).Sublist (dueE n k) := by
          rw [← fm_step (f := fun S => (cp n S).map fun x => (S, x)) hS, due_flat]
          refine List.Sublist.trans ?_ (List.Sublist.refl _)
          conv => rhs; rw [← List.take_append_drop (z + 1) (combs (List.range' 0 n) k), List.flatMap_append]
          exact List.sublist_append_left _ _
        have Emem : ∀ x ∈ cp n S, (S, x) ∈ dueE n k := fun x hx => Esub.subset (List.mem_append_right _ (List.mem_map.mpr ⟨x, hx, rfl⟩))
        generalize hE : (((combs (List.range' 0 n) k).take z).flatMap fun S => (cp n S).map fun x => (S, x)) = E at qL6 qF6 Esub
        dsimp only [gName]
        refine ⟨t, _, rfl, k6.seqT ht, rfl, _, _, rfl, _, _, rfl, rfl, ?_⟩
        have hm6 := k6.seqT hm
        have hc6 : QT K H6 tc (pcQ (wf ws) n S) := k6.seqT hc
        have hA6 := Same.seqT s6 hA
        -- others
        refine ⟨_, rfl, _, rfl, by omega, by omega, fun D nD => ?_⟩
        refine lc_range (lo := 0) (n := ((n : Nat) : Int).toNat) (fun y H7 => Same H6 H7 ∧ H7 D = some (.lst (setV ((List.range' 0 y).filter fun x => !decide (x ∈ S))))) ⟨same_new nD, upd_same⟩ ?_ ?_
        · rintro y H7 hy ⟨s7, hD⟩
          rw [Int.zero_add]
          refine ⟨rfl, _, rfl, .ref tm, rfl, tm, _, rfl, .inr (Same.seqT s7 hm6), rfl, setV_flat _, _, rfl, ?_⟩
          rw [inV_setV, if_pos rfl]
          refine ite2 (fun hb => ?_) (fun hb => ?_)
          · refine ⟨_, rfl, _, hD, ?_, keep_upd s7 nD, ?_⟩
            · rw [setV_len]
              refine small1000 (Nat.le_trans (List.length_filter_le _ _) ?_)
              rw [List.length_range']
              omega
            · rw [upd_same, fr_step, if_pos hb]
          · refine ⟨s7, ?_⟩
            rw [fr_step, if_neg hb, List.append_nil]
            exact hD
        rintro H7 ⟨s7, hD⟩
        rw [Int.toNat_natCast, show ((List.range' 0 n).filter fun x => !decide (x ∈ S)) = cp n S from rfl] at hD
        generalize hO : cp n S = O at hD hpp hcl Esub Emem
        have hOn : ∀ y ∈ O, y < n := fun y hy => by
          rw [← hO] at hy
          exact mem_range0.mp (List.mem_filter.mp hy).1
        have hOl : O.length ≤ 6 := by omega
        have s7t := s6.trans s7
        have k7 := k6.trans (KpE.of s7)
        have hL7 := hL6.same s7
        have hF7 := hF6.same s7
        have qL7 := qL6.mono fun _ _ z => Same.seqT s7 z
        have qF7 := qF6.same s7
        have hD0 : H D = none := s6.free nD
        clear hL6 hF6 qL6 qF6 hm6 hc6 hA6 s6 k6
        -- total
        dsimp only [gName]
        refine ⟨.ref D, rfl, D, rfl, ⟨_, SqL.of hD⟩, fun D2 nD2 => ?_⟩
        refine lc_list (K := K) (a := D) (xs := setV O) (fun y H8 => Same H7 H8 ∧ H8 D2 = some (.lst (setV ((O.take y).map (wf ws))))) ⟨same_new nD2, upd_same⟩ (fun _ H8 _ h => SqL.of (h.1 _ _ hD)) ?_ ?_
        · rintro y v H8 hy ⟨s8, hD2⟩
          obtain ⟨x, hx, rfl⟩ := setV_get hy
          have hxn := hOn x (List.mem_of_getElem? hx)
          refine ⟨rfl, .ref a, rfl, _, rfl, a, _, _, _, rfl, rfl, Same.seqT (s7t.trans s8) hA, atI_nat (wf_at (by omega)), _, hD2, ?_, keep_upd s8 nD2, ?_⟩
          · rw [setV_len, List.length_map]
            exact small1000 (by rw [List.length_take]; omega)
          · rw [upd_same, take_snoc hx, List.map_append, setV_app]
            rfl
        rintro H8 ⟨s8, hD2⟩
        rw [setV_len, List.take_length, setV_ints] at hD2
        refine ⟨D2, _, rfl, SqL.of hD2, ?_⟩
        have e : ((O.map (wf ws)).map fun (m : Nat) => (m : Int)).sum = ((wS (wf ws) O : Nat) : Int) := by
          unfold wS
          generalize O.map (wf ws) = l
          induction l with
          | nil => rfl
          | cons x l ih => rw [List.map_cons, List.sum_cons, List.sum_cons, ih, Int.natCast_add]
        rw [e]
        have s8t := s7t.trans s8
        have k8 := k7.trans (KpE.of s8)
        have hL8 := hL7.same s8
        have hF8 := hF7.same s8
        have qL8 := qL7.mono fun _ _ z => Same.seqT s8 z
        have qF8 := qF7.same s8
        have hD8 := s8 _ _ hD
        clear hL7 hF7 qL7 qF7 s7t k7 e hD2 hD
        dsimp only [gName]
        refine ⟨_, rfl, D, rfl, ⟨_, SqL.of hD8⟩, ?_⟩
        refine for_list (K := K) (a := D) (xs := setV O) (fun y σ H9 => ∃ (kvL kvF : List (NestedKey × V)) (v9 v11 v12 : Option V), σ = [some (.ref a), some (.int (n : Int)), some (.ref dc), some (.ref df), some (.int (k : Int)), some (.ref dl), some (.ref tm), some (.ref tc), some (.ref D), v9, some (.int ((wS (wf ws) O : Nat) : Int)), v11, v12] ∧ Same H H9 ∧ KpE H5 H9 ∧ H9 D = some (.lst (setV O)) ∧ DAt P w K H9 dl kvL ∧ DAt P w K H9 df kvF ∧ LatD K H9 (wf ws) n kvL (E ++ (O.take y).map fun x => (S, x)) ∧ QD K H9 nkE (lvE (wf ws) n) kvF (allD n k ++ (E ++ (O.take y).map fun x => (S, x)))) ?_ ?_ ?_ ?_
        · refine ⟨kvL, kvF, v9, v11, v12, rfl, s8t, k8, hD8, hL8, hF8, ?_, ?_⟩
          · rw [List.take_zero, List.map_nil, List.append_nil]
            exact qL8
          · rw [List.take_zero, List.map_nil, List.append_nil]
            exact qF8
        · rintro y σ H9 _ ⟨_, _, _, _, _, _, _, _, h9, _⟩
          exact SqL.of h9
        · rintro y v σ H9 hy ⟨kvL, kvF, v9, v11, v12, rfl, s9, k9, hD9, hL9, hF9, qL9, qF9⟩
          obtain ⟨x, hx, rfl⟩ := setV_get hy
          have hxm := List.mem_of_getElem? hx
          have hxn := hOn x hxm
          have hm9 := k9.seqT hm
          have hc9 : SqT K H9 tc _ := k9.seqT hc
          have hA9 := Same.seqT s9 hA
          obtain ⟨m, em⟩ := q_num_nat (Rat.le_of_lt ppos)
          have elv : ((m * wf ws x : Nat) : Rat) / (((pcQ (wf ws) n S).den * wS (wf ws) O : Nat) : Rat) = lvQ (wf ws) n S x := by
            have hpp2 : 0 < wS (wf ws) (cp n S) := by rw [hO]; exact hpp
            rw [lv_pc hpp2, hO]
            have hq := q_is (pcQ (wf ws) n S)
            rw [em] at hq
            have hq2 : pcQ (wf ws) n S = (m : Rat) / (((pcQ (wf ws) n S).den : Nat) : Rat) := hq
            have z1 : (((pcQ (wf ws) n S).den : Nat) : Rat) ≠ 0 := by exact_mod_cast (Nat.ne_of_gt (pcQ (wf ws) n S).den_pos)
            have z2 : ((wS (wf ws) O : Nat) : Rat) ≠ 0 := by exact_mod_cast (Nat.ne_of_gt hpp)
            push_cast
            generalize (((pcQ (wf ws) n S).den : Nat) : Rat) = d at *
            rw [hq2]
            grind
          rw [em] at hc9
          have pd := (pcQ (wf ws) n S).den_pos
          obtain ⟨b1, b2⟩ := pqb
          rw [em, Int.natAbs_natCast] at b1
          have b3 := wf_small hw x
          have b4 := wS_small hw (L := O) hOl
          dsimp only [gName]
          refine ⟨.ref tc, rfl, tc, _, _, _, rfl, rfl, hc9, rfl, .ref a, rfl, _, rfl, a, _, _, _, rfl, rfl, hA9, atI_nat (wf_at (by omega)), _, _, rfl, rfl, wide_mul (a := 460) (b := 13) (by rw [Int.natAbs_natCast]; exact b1) (by rw [Int.natAbs_natCast]; exact b3) (by decide) (by decide) (by decide), .ref tc, rfl, tc, _, _, _, rfl, rfl, hc9, rfl, _, rfl, _, _, rfl, rfl, wide_mul (a := 460) (b := 13) (by rw [Int.natAbs_natCast]; exact b2) (by rw [Int.natAbs_natCast]; exact b4) (by decide) (by decide) (by decide), m * wf ws x, (pcQ (wf ws) n S).den * wS (wf ws) O, ?_, Nat.mul_pos pd hpp, bits_up (pow_lt2 b2 b4) (by decide), bits_up (pow_lt2 b1 b3) (by decide), fun H10 ts s10 nts hts => ?_⟩
          · rw [Int.natCast_mul, Int.natCast_mul]
            rfl
          rw [elv] at hts
          have hL10 := hL9.same s10
          have hF10 := hF9.same s10
          have qL10 := qL9.mono fun _ _ z => Same.seqT s10 z
          have qF10 := qF9.same s10
          have hm10 := Same.seqT s10 hm9
          have s10t := s9.trans s10
          have k10 := k9.trans (KpE.of s10)
          have hD10 := s10 _ _ hD9
          clear hL9 hF9 qL9 qF9 hm9 hA9 hc9
          dsimp only [gName]
          -- there
          have aX : (S, x) ∈ dueE n k := Emem x hxm
          have hthr : thr (S, x) = srt (S ++ [x]) := rfl
          refine ⟨.ref tm, rfl, _, rfl, by show 1 ≤ sizeLine; decide, fun e1 ne1 => ?_⟩
          have z1 := same_new (o := .tup [V.int (x : Int)]) ne1
          refine ⟨tm, e1, setV S, [V.int (x : Int)], rfl, rfl, Same.seqT z1 hm10, SqT.of upd_same, by rw [setV_len, sizeLine_eq]; show S.length + 1 ≤ _; omega, fun p2 H11 s11 hP => ?_⟩
          have hP2 : SqT K H11 p2 ((intL (S ++ [x])).map V.int) := by
            rw [← setV_ints, setV_app]
            exact hP
          refine ⟨p2, intL (S ++ [x]), rfl, .inr hP2, by rw [List.length_map, List.length_append]; show S.length + 1 < 64; omega, fun ns' q0 pm srtd nq0 => ?_⟩
          obtain ⟨ks2, rfl, pk⟩ := ints_back pm
          rw [← setV_ints]
          obtain rfl : ks2 = srt (S ++ [x]) := srt_of pk (le_back srtd)
          refine ⟨q0, _, rfl, .inl ⟨SqL.of upd_same, fun pt npt => ?_⟩⟩
          have z2 := ((z1.trans s11).trans (same_new (o := .lst (setV (srt (S ++ [x])))) nq0)).trans (same_new (o := .tup (setV (srt (S ++ [x])))) npt)
          have hpt : (upd (upd H11 q0 (.lst (setV (srt (S ++ [x]))))) pt (.tup (setV (srt (S ++ [x]))))) pt = some (.tup (setV (srt (S ++ [x])))) := upd_same
          generalize upd (upd H11 q0 (.lst (setV (srt (S ++ [x]))))) pt (.tup (setV (srt (S ++ [x])))) = H12 at z2 hpt
          have hL12 := hL10.same z2
          have hF12 := hF10.same z2
          have qL12 := qL10.mono fun _ _ z => Same.seqT z2 z
          have qF12 := qF10.same z2
          have hm12 := Same.seqT z2 hm10
          have hts12 := z2 _ _ hts
          have s12t := s10t.trans z2
          have k12 := k10.trans (KpE.of z2)
          have hD12 := z2 _ _ hD10
          clear hL10 hF10 qL10 qF10 hm10 hP2 hP z1 s11 pk srtd pm
          -- found
          dsimp only [gName]
          refine ⟨_, rfl, _, rfl, .ref tm, rfl, _, rfl, by show 2 ≤ sizeLine; decide, fun te nte => ?_⟩
          have z3 := same_new (o := .tup [V.ref tm, V.int (x : Int)]) nte
          have hte : (upd H12 te (.tup [V.ref tm, V.int (x : Int)])) te = some (.tup [V.ref tm, V.int (x : Int)]) := upd_same
          have hlenF := qF12.len
          have hEl : (E ++ (O.take y).map fun x => (S, x)).length ≤ 384 := by
            have a1 : (E ++ (O.take y).map fun x => (S, x)).Sublist (E ++ O.map fun x => (S, x)) := List.Sublist.append (List.Sublist.refl _) ((List.take_sublist y O).map _)
            exact Nat.le_trans (a1.trans Esub).length_le (due_len hn)
          have hAl := alld_len (k := k) hn
          refine ⟨df, te, kvF, nkE (S, x), rfl, rfl, hF12.same z3, nkE_at (e := (S, x)) (SqT.of hte) (Same.seqT z3 hm12), nkE_depth _, ?_, fun u hFu => ?_⟩
          · rw [hlenF, List.length_append, sizeLine_eq]
            omega
          obtain ⟨φF, eF⟩ := (hF12.same z3).ext
          have hL13 := (hL12.same z3).updE (u := u) eF (fun z => ne2 z.symm)
          have hm13 : SqT K (upd (upd H12 te (.tup [V.ref tm, V.int (x : Int)])) df u) tm (setV S) := SqT_updE (Same.seqT z3 hm12) eF
          have hts13 : QT K (upd (upd H12 te (.tup [V.ref tm, V.int (x : Int)])) df u) ts (lvQ (wf ws) n S x) := SqT_updE (Same.seqT z3 (SqT.of hts12)) eF
          have hpt13 : SqT K (upd (upd H12 te (.tup [V.ref tm, V.int (x : Int)])) df u) pt (setV (srt (S ++ [x]))) := SqT_updE (Same.seqT z3 (SqT.of hpt)) eF
          have qL13 := qL12.mono (K := K) (H' := upd (upd H12 te (.tup [V.ref tm, V.int (x : Int)])) df u) fun _ _ z => SqT_updE (Same.seqT z3 z) eF
          have qF13 := qF12.mono (K := K) (H' := upd (upd H12 te (.tup [V.ref tm, V.int (x : Int)])) df u) fun _ _ z => SqT_updE (Same.seqT z3 z) eF
          have s13t : Same H (upd (upd H12 te (.tup [V.ref tm, V.int (x : Int)])) df u) := dsame_upd (s12t.trans z3) ndf0
          have k13 : KpE H5 (upd (upd H12 te (.tup [V.ref tm, V.int (x : Int)])) df u) := (k12.trans (KpE.of z3)).dict eF
          have hD13 : (upd (upd H12 te (.tup [V.ref tm, V.int (x : Int)])) df u) D = some (.lst (setV O)) := (KpE.dict (KpE.of z3) eF).lst hD12
          have hnew : (S, x) ∉ allD n k ++ (E ++ (O.take y).map fun x => (S, x)) := by
            intro hmem
            rcases List.mem_append.mp hmem with h | h
            · obtain ⟨k', hk', h⟩ := allD_mem.mp h
              have := (due_in h).2.1
              have := (due_in aX).2.1
              omega
            · have nd : (E ++ O.map fun x => (S, x)).Nodup := Esub.nodup (dueE_nodup n k)
              have sb : ((E ++ (O.take y).map fun x => (S, x)) ++ [(S, x)]).Sublist (E ++ O.map fun x => (S, x)) := by
                rw [List.append_assoc]
                refine List.Sublist.append (List.Sublist.refl _) ?_
                have := (List.take_sublist (y + 1) O).map fun x => (S, x)
                rw [take_snoc hx, List.map_append] at this
                exact this
              exact (List.nodup_append.mp (sb.nodup nd)).2.2 _ h _ List.mem_cons_self rfl
          have qF13' := qF13.put_new edge_inj hnew (val' := lvE (wf ws) n) hts13 fun _ _ => rfl
          generalize upd (upd H12 te (.tup [V.ref tm, V.int (x : Int)])) df u = H13 at *
          clear hL12 hF12 qL12 qF12 hm12 hts12 k12 s12t hD12 z3 eF qF13
          -- later
          dsimp only [gName]
          obtain ⟨xsL, eL, _, _⟩ := id hL13
          refine ⟨_, rfl, ⟨dl, xsL, rfl, eL⟩, _, rfl, by show 2 ≤ sizeLine; decide, fun tz ntz => ?_⟩
          have z4 := same_new (o := .tup [V.int 0, V.int 1]) ntz
          have htz : QT K (upd H13 tz (.tup [V.int 0, V.int 1])) tz 0 := SqT.of upd_same
          refine ⟨dl, pt, .ref tz, kvL, nkT (srt (S ++ [x])), rfl, rfl, hL13.same z4, nkT_at (Same.seqT z4 hpt13), nkT_depth _, ?_⟩
          obtain ⟨tg, eg, hg⟩ := (qL13.mono (K := K) (H' := upd H13 tz (.tup [V.int 0, V.int 1])) fun _ _ z => Same.seqT z4 z).get (srt (S ++ [x])) htz
          rw [eg]
          have Esub2 : (E ++ (O.take y).map fun x => (S, x)).Sublist (dueE n k) := List.Sublist.trans (List.Sublist.append (List.Sublist.refl _) ((List.take_sublist y O).map _)) Esub
          obtain ⟨u0, u1⟩ := sumS_part (w := wf ws) hw.pos (wf_small hw) (wS_small hw (by rw [List.length_range']; omega)) hl hk Esub2 aX
          have l0 := lvE_pos hw hk aX
          have l1 := qb_lv (w := wf ws) (x := x) hw.pos (wS_small hw (by rw [List.length_range']; omega)) hl (asc_nodup aS) hSn hSl (wf_small hw x)
          refine ⟨_, rfl, tg, ts, _, _, rfl, hg, hts13.same z4, u0, Rat.le_of_lt l0, u1, l1.up (by decide), fun H14 t14 s14 n14 h14 => ?_⟩
          have hL14 := (hL13.same z4).same s14
          have hlenL := qL13.len
          refine ⟨_, rfl, _, rfl, dl, pt, kvL, nkT (srt (S ++ [x])), rfl, rfl, hL14, nkT_at (Same.seqT (z4.trans s14) hpt13), nkT_depth _, by rw [sizeLine_eq]; omega, fun u2 hLu => ?_⟩
          obtain ⟨φL, eLL⟩ := hL14.ext
          have eT : (O.take (y + 1)).map (fun x => (S, x)) = (O.take y).map (fun x => (S, x)) ++ [(S, x)] := by rw [take_snoc hx, List.map_append]; rfl
          refine ⟨_, _, _, _, _, rfl, dsame_upd (s13t.trans (z4.trans s14)) ndl0, (k13.trans (KpE.of (z4.trans s14))).dict eLL, (KpE.dict (KpE.of (z4.trans s14)) eLL).lst hD13, hLu, (((hFu.same z4).same s14).updE eLL ne2), ?_, ?_⟩
          · have := (qL13.mono (K := K) (H' := upd H14 dl u2) fun _ _ z => SqT_updE (Same.seqT (z4.trans s14) z) eLL).put (S, x) (t := t14) (SqT_updE (SqT.of h14) eLL)
            rw [List.append_assoc, ← eT] at this
            exact this
          · have := qF13'.mono (K := K) (H' := upd H14 dl u2) fun _ _ z => SqT_updE (Same.seqT (z4.trans s14) z) eLL
            rw [List.append_assoc, List.append_assoc, ← eT] at this
            exact this
        · rintro σ H9 ⟨kvL, kvF, v9, v11, v12, rfl, s9, k9, hD9, hL9, hF9, qL9, qF9⟩
          rw [setV_len, List.take_length] at qL9 qF9
          have eS : ((combs (List.range' 0 n) k).take (z + 1)).flatMap (fun S => (cp n S).map fun x => (S, x)) = E ++ O.map fun x => (S, x) := by
            rw [fm_step (f := fun S => (cp n S).map fun x => (S, x)) hS, hE, hO]
          rw [← eS] at qL9 qF9
          exact ⟨_, _, _, _, _, _, _, _, _, rfl, s9, k9, hL9, hF9, qL9, qF9⟩
      · rintro σ H6 ⟨kvL, kvF, v6, v7, v8, v9, v10, v11, v12, rfl, s6, k6, hL6, hF6, qL6, qF6⟩
        rw [ul, List.take_length, ← due_flat] at qL6 qF6
        rw [← allD_succ] at qF6
        dsimp only [gName]
        refine ⟨_, rfl, dl, kvL, kvF, _, _, _, _, _, _, _, _, _, rfl, s6, ndl0, ne2, hL6, hF6, qF6, fun hk1 => ?_⟩
        obtain ⟨ks, nd, mem, qk⟩ := qL6
        refine ⟨ks, (List.perm_ext_iff_of_nodup nd (combsNodup _ _ (asc_nodup (asc_range' n 0)))).mpr fun S => (mem S).trans thr_all, qk.congr fun S hS => ?_⟩
        obtain ⟨e, he, rfl⟩ := (mem S).mp hS
        obtain ⟨g1, g2, g3⟩ := thr_good he
        exact sumS_due hw.pos g1 g2 g3 hk1
    · rintro σ H3 ⟨dc, kvC, kvF, v4, v5, v6, v7, v8, v9, v10, v11, v12, rfl, s3, ndc, ne1, hC, hF, qF, hks⟩
      rw [Int.toNat_natCast] at qF
      exact ⟨_, rfl, q H3 df kvF s3 ndf0 hF qF⟩
end
/-! ### level_shares -/
def spLShs (P : Program) (w : World) (K : PySem.W.Frag) : Sp := fun vs H Q _ => ∃ (a : Addr) (ws : List Nat), vs = [.ref a] ∧ SqT K H a (setV ws) ∧ WtOk ws ∧ 1 ≤ ws.length ∧ ws.length ≤ 6 ∧
  ∀ H' d kvs, Same H H' → H d = none → DAt P w K H' d kvs → QD K H' nkE (lvE (wf ws) ws.length) kvs (allD ws.length ws.length) → Q (.ref d) H'
section
variable {P : Program} {w : World} {K : PySem.W.Frag} {mg : Str → Option Value} {base : Heap}
theorem ok_lshs (T : Txt K mg) {j : Nat} : FnOk P w K mg base CX0 (j + 5) T.fLShs T.fdLShs ["weights"] (spLShs P w K) := by
  refine T.FLShs.ok scLShs (fun vs H Q E h => ?_) (fun cdv A outer s H vs Q E hr h => ?_)
  · obtain ⟨a, ws, rfl, _⟩ := h
    rfl
  · obtain ⟨a, ws, rfl, hA, hw, hl1, hl, q⟩ := h
    have hu9 : (A.deeper (envOfC "level_shares" (defScope sLShs) s.heap.objs.size T.fLShs cdv)).units + 9 < cLine := by
      have := hr.un
      omega
    refine ⟨_, pss_cons (ps_set (i := 1) scLShs.nd rfl (.inl rfl) (pe_tupRg rfl (by rfl) T.n_tuple (prg_1 (by rfl) T.n_range (pe_callB (call_lenK K) (by rfl) T.n_len PySem.boot_len (pa_cons (pv 0) pa_nil))))) (pss_cons (ps_set (i := 2) scLShs.nd rfl (.inl rfl) (pe_dnewN (P := P) (w := w))) (pss_cons (ps_for PassesOwn.never rfl (pi_range1 (by rfl) T.n_range (pa_cons (pe_callB (call_lenK K) (by rfl) T.n_len PySem.boot_len (pa_cons (pv 0) pa_nil)) pa_nil)) (pg_name (i := 3) scLShs.nd rfl (.inl rfl)) (pss_one (ps_for PassesOwn.never rfl (pi_list (pe_call (ok_among T) hr (by rfl) T.gAmong T.FAmong.kp T.bAmong .nil pass0 (pa_cons (pv 1) (pa_cons (pv 3) pa_nil)))) (pg_name (i := 4) scLShs.nd rfl (.inl rfl)) (pss_one (ps_for PassesOwn.never rfl (pi_tup (pe_call (ok_out T) hr (by rfl) T.gOut T.FOut.kp T.bOut .nil pass0 (pa_cons (pe_callB (call_lenK K) (by rfl) T.n_len PySem.boot_len (pa_cons (pv 0) pa_nil)) (pa_cons (pv 4) pa_nil)))) (pg_name (i := 5) scLShs.nd rfl (.inl rfl)) (pss_one (ps_asg (pe_call (ok_lshare T) hr (by rfl) T.gLShare T.FLShare.kp T.bLShare .nil pass0 (pa_cons (pv 0) (pa_cons (pv 4) (pa_cons (pv 5) pa_nil)))) (pg_sub (pv 2) (pe_tup (pa_cons (pv 4) (pa_cons (pv 5) pa_nil))) (set_dN (P := P) (w := w) K hu9))))))))) (pss_one (ps_ret (pv 2))))), ?_⟩
    generalize hN : ws.length = n at *
    refine ⟨.ref a, rfl, _, _, rfl, .inr hA, _, rfl, ⟨by decide, by decide, by rw [setV_len]; omega, by rw [setV_len]; omega⟩, fun pe npe => ?_⟩
    rw [setV_len, hN, setV_range]
    have s1 := same_new (o := .tup (setV (List.range' 0 n))) npe
    have hpe : (upd H pe (.tup (setV (List.range' 0 n)))) pe = some (.tup (setV (List.range' 0 n))) := upd_same
    generalize upd H pe (.tup (setV (List.range' 0 n))) = H1 at s1 hpe
    dsimp only [gName]
    intro df ndf
    have s2 := same_new (o := DN P w df []) ndf
    have hF : DAt P w K (upd H1 df (DN P w df [])) df [] := ⟨[], upd_same, fun x hx => absurd hx List.not_mem_nil, rfl⟩
    have ndf0 := s1.free ndf
    have hpe2 := s2 _ _ hpe
    have s3 := s1.trans s2
    generalize upd H1 df (DN P w df []) = H2 at s3 hF hpe2
    dsimp only [gName]
    refine ⟨.ref a, rfl, _, _, rfl, .inr (Same.seqT s3 hA), _, rfl, by rw [setV_len]; omega, by rw [setV_len]; omega, ?_⟩
    rw [setV_len, hN]
    refine for_range (lo := 0) (n := ((n : Nat) : Int).toNat) (fun k σ H3 => ∃ (kvF : List (NestedKey × V)) (v3 v4 v5 : Option V), σ = [some (.ref a), some (.ref pe), some (.ref df), v3, v4, v5] ∧ Same H H3 ∧ H3 pe = some (.tup (setV (List.range' 0 n))) ∧ DAt P w K H3 df kvF ∧ QD K H3 nkE (lvE (wf ws) n) kvF (allD n k)) ⟨[], none, none, none, rfl, s3, hpe2, hF, .nil⟩ ?_ ?_
    · rintro k σ H3 hk ⟨kvF, v3, v4, v5, rfl, s3, hpe, hF, qF⟩
      rw [Int.toNat_natCast] at hk
      rw [Int.zero_add]
      have hcl : (combs (List.range' 0 n) k).length ≤ 100000 := by
        rw [combsLen, List.length_range']
        have h1 := C_le n k
        have h2 : 2 ^ n ≤ 2 ^ 6 := Nat.pow_le_pow_right (by decide) hl
        omega
      dsimp only [gName]
      refine ⟨.ref pe, rfl, _, rfl, pe, List.range' 0 n, k, rfl, SqT.of hpe, by rw [List.length_range']; omega, by omega, hcl, fun H4 pl ts s4 npl hpl R4 => ?_⟩
      have rl := R4.len
      refine ⟨pl, rfl, ⟨_, SqL.of hpl⟩, ?_⟩
      refine for_list (K := K) (a := pl) (xs := ts) (fun z σ H6 => ∃ (kvF : List (NestedKey × V)) (v4 v5 : Option V), σ = [some (.ref a), some (.ref pe), some (.ref df), some (.int (k : Int)), v4, v5] ∧ Same H H6 ∧ KpE H4 H6 ∧ DAt P w K H6 df kvF ∧ QD K H6 nkE (lvE (wf ws) n) kvF (allD n k ++ (((combs (List.range' 0 n) k).take z).flatMap fun S => (cp n S).map fun x => (S, x)))) ?_ ?_ ?_ ?_
      · refine ⟨kvF, v4, v5, rfl, s3.trans s4, KpE.refl _, hF.same s4, ?_⟩
        rw [List.take_zero, List.flatMap_nil, List.append_nil]
        exact qF.same s4
      · rintro z σ H6 _ ⟨_, _, _, _, _, k6, _⟩
        exact SqL.of (k6.lst hpl)
      · rintro z v σ H6 hz ⟨kvF, v4, v5, rfl, s6, k6, hF6, qF6⟩
        obtain ⟨S, hS, tm, rfl, hm⟩ := paired_get R4 hz
        obtain ⟨g1, g2⟩ := combs_good _ _ S (List.mem_of_getElem? hS)
        have aS := (asc_range' n 0).sublist g2
        have hSn : ∀ y ∈ S, y < n := fun y hy => mem_range0.mp (g2.subset hy)
        have Esub : ((((combs (List.range' 0 n) k).take z).flatMap fun S => (cp n S).map fun x => (S, x)) ++ (cp n S).map fun x => (S, x)).Sublist (dueE n k) := by
          rw [← fm_step (f := fun S => (cp n S).map fun x => (S, x)) hS, due_flat]
          refine List.Sublist.trans ?_ (List.Sublist.refl _)
          conv => rhs; rw [← List.take_append_drop (z + 1) (combs (List.range' 0 n) k), List.flatMap_append]
          exact List.sublist_append_left _ _
        have Emem : ∀ x ∈ cp n S, (S, x) ∈ dueE n k := fun x hx => Esub.subset (List.mem_append_right _ (List.mem_map.mpr ⟨x, hx, rfl⟩))
        generalize hE : (((combs (List.range' 0 n) k).take z).flatMap fun S => (cp n S).map fun x => (S, x)) = E at qF6 Esub
        dsimp only [gName]
        refine ⟨.ref a, rfl, _, _, rfl, .inr (Same.seqT s6 hA), _, rfl, n, tm, S.map (fun (m : Nat) => (m : Int)), by rw [setV_len, hN]; rfl, by rw [← setV_ints]; exact k6.seqT hm, by omega, by rw [List.length_map]; omega, fun H7 po s7 npo hpo => ?_⟩
        rw [out_cp] at hpo
        generalize hO : cp n S = O at hpo Esub Emem
        have s7t := s6.trans s7
        have k7 := k6.trans (KpE.of s7)
        have hF7 := hF6.same s7
        have qF7 := qF6.same s7
        clear hF6 qF6 s6 k6
        refine ⟨po, rfl, ⟨_, SqT.of hpo⟩, for_tup (K := K) (a := po) (xs := setV O) (fun y σ H9 => ∃ (kvF : List (NestedKey × V)) (v5 : Option V), σ = [some (.ref a), some (.ref pe), some (.ref df), some (.int (k : Int)), some (.ref tm), v5] ∧ Same H H9 ∧ KpE H4 H9 ∧ H9 po = some (.tup (setV O)) ∧ DAt P w K H9 df kvF ∧ QD K H9 nkE (lvE (wf ws) n) kvF (allD n k ++ (E ++ (O.take y).map fun x => (S, x)))) ?_ ?_ ?_ ?_⟩
        · refine ⟨kvF, v5, rfl, s7t, k7, hpo, hF7, ?_⟩
          rw [List.take_zero, List.map_nil, List.append_nil]
          exact qF7
        · rintro y σ H9 _ ⟨_, _, _, _, _, h9, _⟩
          exact SqT.of h9
        · rintro y v σ H9 hy ⟨kvF, v5, rfl, s9, k9, hpo9, hF9, qF9⟩
          obtain ⟨x, hx, rfl⟩ := setV_get hy
          have hxm := List.mem_of_getElem? hx
          have aX := Emem x hxm
          obtain ⟨d1, d2, d3, d4, d5⟩ := due_in aX
          dsimp only [gName]
          refine ⟨.ref a, rfl, .ref tm, rfl, _, rfl, a, tm, ws, S, x, rfl, Same.seqT s9 hA, k9.seqT hm, hw, by omega, asc_nodup aS, fun y hy => by rw [hN]; exact hSn y hy, by rw [hN]; exact d4, d5, fun H10 t10 s10 n10 h10 => ?_⟩
          rw [hN] at h10
          refine ⟨_, rfl, .ref tm, rfl, _, rfl, by show 2 ≤ sizeLine; decide, fun te nte => ?_⟩
          have z3 := s10.trans (same_new (o := .tup [V.ref tm, V.int (x : Int)]) nte)
          have hte : (upd H10 te (.tup [V.ref tm, V.int (x : Int)])) te = some (.tup [V.ref tm, V.int (x : Int)]) := upd_same
          have hts := (same_new (o := .tup [V.ref tm, V.int (x : Int)]) nte) _ _ h10
          generalize upd H10 te (.tup [V.ref tm, V.int (x : Int)]) = H11 at z3 hte hts
          have hlenF := qF9.len
          have hEl : (E ++ (O.take y).map fun x => (S, x)).length ≤ 384 := by
            have a1 : (E ++ (O.take y).map fun x => (S, x)).Sublist (E ++ O.map fun x => (S, x)) := List.Sublist.append (List.Sublist.refl _) ((List.take_sublist y O).map _)
            exact Nat.le_trans (a1.trans Esub).length_le (due_len hl)
          have hAl := alld_len (k := k) hl
          refine ⟨df, te, kvF, nkE (S, x), rfl, rfl, hF9.same z3, nkE_at (e := (S, x)) (SqT.of hte) (Same.seqT z3 (k9.seqT hm)), nkE_depth _, ?_, fun u hFu => ?_⟩
          · rw [hlenF, List.length_append, sizeLine_eq]
            omega
          obtain ⟨φF, eF⟩ := (hF9.same z3).ext
          have hnew : (S, x) ∉ allD n k ++ (E ++ (O.take y).map fun x => (S, x)) := by
            intro hmem
            rcases List.mem_append.mp hmem with h | h
            · obtain ⟨k', hk', h⟩ := allD_mem.mp h
              have := (due_in h).2.1
              omega
            · have nd : (E ++ O.map fun x => (S, x)).Nodup := Esub.nodup (dueE_nodup n k)
              have sb : ((E ++ (O.take y).map fun x => (S, x)) ++ [(S, x)]).Sublist (E ++ O.map fun x => (S, x)) := by
                rw [List.append_assoc]
                refine List.Sublist.append (List.Sublist.refl _) ?_
                have := (List.take_sublist (y + 1) O).map fun x => (S, x)
                rw [take_snoc hx, List.map_append] at this
                exact this
              exact (List.nodup_append.mp (sb.nodup nd)).2.2 _ h _ List.mem_cons_self rfl
          have eT : (O.take (y + 1)).map (fun x => (S, x)) = (O.take y).map (fun x => (S, x)) ++ [(S, x)] := by rw [take_snoc hx, List.map_append]; rfl
          refine ⟨_, _, rfl, dsame_upd (s9.trans z3) ndf0, (k9.trans (KpE.of z3)).dict eF, KpE.dict (KpE.of z3) eF _ _ hpo9 (fun φ z => by cases z), hFu, ?_⟩
          have := ((qF9.same z3).mono (K := K) (H' := upd H11 df u) fun _ _ z => SqT_updE z eF).put_new edge_inj hnew (val' := lvE (wf ws) n) (t := t10) (SqT_updE (SqT.of hts) eF) fun _ _ => rfl
          rw [List.append_assoc, List.append_assoc, ← eT] at this
          exact this
        · rintro σ H9 ⟨kvF, v5, rfl, s9, k9, hpo9, hF9, qF9⟩
          rw [setV_len, List.take_length] at qF9
          have eS : ((combs (List.range' 0 n) k).take (z + 1)).flatMap (fun S => (cp n S).map fun x => (S, x)) = E ++ O.map fun x => (S, x) := by
            rw [fm_step (f := fun S => (cp n S).map fun x => (S, x)) hS, hE, hO]
          rw [← eS] at qF9
          exact ⟨_, _, _, rfl, s9, k9, hF9, qF9⟩
      · rintro σ H6 ⟨kvF, v4, v5, rfl, s6, k6, hF6, qF6⟩
        rw [rl, List.take_length, ← due_flat, ← allD_succ] at qF6
        exact ⟨_, _, _, _, rfl, s6, k6 _ _ (s4 _ _ hpe) (fun φ z => by cases z), hF6, qF6⟩
    · rintro σ H3 ⟨kvF, v3, v4, v5, rfl, s3, hpe, hF, qF⟩
      rw [Int.toNat_natCast] at qF
      exact ⟨_, rfl, q H3 df kvF s3 ndf0 hF qF⟩
end
/-! ### least_count, least_weighted -/
def spLCnt (P : Program) (w : World) (K : PySem.W.Frag) : Sp := fun vs H Q _ => ∃ (d : Addr) (kvs : List (NestedKey × V)) (es : List (List Nat × Nat)) (f : List Nat × Nat → Rat), vs = [.ref d] ∧ DAt P w K H d kvs ∧ QD K H nkE f kvs es ∧ (∀ e ∈ es, (f e).den < 2 ^ 460) ∧ es.length ≤ 1000 ∧
  Q (.int (lcmL (es.map fun e => (f e).den) : Nat)) H
def spLWt (K : PySem.W.Frag) : Sp := fun vs H Q _ => ∃ (a : Addr) (ws : List Nat), vs = [.ref a] ∧ SqT K H a (setV ws) ∧ WtOk ws ∧ 1 ≤ ws.length ∧ ws.length ≤ 6 ∧ ∀ H', Same H H' → Q (.int (leastQ (wf ws) ws.length : Nat)) H'
theorem lcmL_lt {b : Nat} : ∀ (l : List Nat), (∀ x ∈ l, x < 2 ^ b) → lcmL l < 2 ^ (b * l.length + 1) := by
  have key : ∀ (n : Nat) (l : List Nat), l.length = n → (∀ x ∈ l, x < 2 ^ b) → lcmL l < 2 ^ (b * l.length + 1) := by
    intro n
    induction n with
    | zero =>
      intro l hl _
      rw [List.length_eq_zero_iff.mp hl]
      show 1 < 2 ^ (b * 0 + 1)
      exact Nat.one_lt_two_pow (by omega)
    | succ n ih =>
      intro l hl h
      obtain ⟨r, x, rfl⟩ : ∃ r x, l = r ++ [x] := ⟨l.dropLast, l.getLast (fun e => by rw [e] at hl; cases hl), (List.dropLast_concat_getLast _).symm⟩
      rw [List.length_append] at hl
      have hr : r.length = n := by
        have : [x].length = 1 := rfl
        omega
      have h1 := ih r hr fun y hy => h y (List.mem_append_left _ hy)
      have h2 := h x (List.mem_append_right _ List.mem_cons_self)
      rw [lcmL_snoc, List.length_append]
      refine Nat.lt_of_le_of_lt (stepL_le _ _) (bits_up (pow_lt2 h1 h2) ?_)
      show b * r.length + 1 + b ≤ b * (r.length + 1) + 1
      rw [Nat.mul_succ]
      omega
  exact fun l h => key _ l rfl h
theorem due_len2 {n k : Nat} (hn : n ≤ 6) : (dueE n k).length ≤ 96 := by
  have h1 := (List.perm_ext_iff_of_nodup (dueE_nodup n k) (allE_nodup n k)).mpr fun e => dueE_mem
  rw [h1.length_eq, allE_len]
  rcases Nat.lt_or_ge n 2 with h | h
  · have h2 : C (n - 1) k ≤ 2 ^ (n - 1) := C_le _ _
    have h3 : 2 ^ (n - 1) ≤ 2 ^ 0 := Nat.pow_le_pow_right (by decide) (by omega)
    have h4 : n * C (n - 1) k ≤ 6 * 1 := Nat.mul_le_mul hn (by omega)
    omega
  · have h2 := C_half (n - 1) k (by omega)
    have h3 : 2 ^ (n - 1 - 1) ≤ 2 ^ 4 := Nat.pow_le_pow_right (by decide) (by omega)
    have h4 : n * C (n - 1) k ≤ 6 * 16 := Nat.mul_le_mul hn (by omega)
    omega
theorem alld_len2 {n : Nat} (hn : n ≤ 6) : ∀ {k : Nat}, (allD n k).length ≤ 96 * k
  | 0 => Nat.le_refl _
  | k + 1 => by
    rw [allD_succ, List.length_append]
    have h1 := alld_len2 hn (k := k)
    have h2 := due_len2 (k := k) hn
    omega
section
variable {P : Program} {w : World} {K : PySem.W.Frag} {mg : Str → Option Value} {base : Heap}
theorem ok_lcnt (T : Txt K mg) {j : Nat} : FnOk P w K mg base CX0 (j + 3) T.fLCnt T.fdLCnt ["shares"] (spLCnt P w K) := by
  refine T.FLCnt.ok scLCnt (fun vs H Q E h => ?_) (fun cdv A outer s H vs Q E hr h => ?_)
  · obtain ⟨d, kvs, es, f, rfl, _⟩ := h
    rfl
  · obtain ⟨d, kvs, es, f, rfl, hD, qD, hb, hl, q⟩ := h
    have hu9 : (A.deeper (envOfC "least_count" (defScope sLCnt) s.heap.objs.size T.fLCnt cdv)).units + 9 < cLine := by
      have := hr.un
      omega
    refine ⟨_, pss_cons (ps_set (i := 1) scLCnt.nd rfl (.inl rfl) pe_int) (pss_cons (ps_lock (ps_for PassesOwn.never rfl ((pi_keysF (P := P) (w := w)) (pv 0)) (pg_name (i := 2) scLCnt.nd rfl (.inl rfl)) (pss_one (ps_set (i := 1) scLCnt.nd rfl (.inl rfl) (pe_call (ok_lcm T) hr (by rfl) T.gLcm T.FLcm.kp T.bLcm .nil pass0 (pa_cons (pv 1) (pa_cons (pe_ix (ix_tupK K) (pe_ix (ix_dNF (P := P) (w := w) K hu9) (pv 0) (pv 2) (fun _ _ => rfl)) pe_int (fun _ _ => rfl)) pa_nil))))))) (pss_one (ps_ret (pv 1)))), ?_⟩
    obtain ⟨xs, eD, hx, rfl⟩ := id hD
    refine ⟨d, _, eD, True.intro, fun o => ?_⟩
    have hfz : (upd H d (.frz o (DN P w d xs))) d = some (.frz o (DN P w d xs)) := upd_same
    have hk7 : ∀ x ∈ xs, NkAt K (upd H d (.frz o (DN P w d xs))) x.1 (.ref x.2.1) ∧ x.1.depth ≤ 8 := fun x h => ⟨NkAt.mono (fun _ _ h => SqT_updE h eD) _ _ (hx x h).1, (hx x h).2⟩
    have qD7 : QD K (upd H d (.frz o (DN P w d xs))) nkE f (KN xs) es := qD.mono fun _ _ h => SqT_updE h eD
    have eb : upd (upd H d (.frz o (DN P w d xs))) d (DN P w d xs) = H := upd_back eD
    generalize upd H d (.frz o (DN P w d xs)) = H7 at hfz hk7 qD7 eb
    have xl := qD7.len
    unfold KN at xl
    rw [List.length_map] at xl
    refine ⟨_, rfl, d, o, xs, rfl, hfz, ?_⟩
    refine for_it (walk_keysN (P := P) (w := w) (d := d) (o := o) (xs := xs)) (fun z σ H8 => ∃ v2, σ = [some (.ref d), some (.int ((lcmL ((es.take z).map fun e => (f e).den) : Nat) : Int)), v2] ∧ H8 = H7) ⟨none, rfl, rfl⟩ (fun _ σ H8 _ ⟨_, _, e⟩ => by rw [e]; exact hfz) ?_ ?_
    · rintro z v σ H8 H9 hz ⟨v2, rfl, rfl⟩ ⟨rfl, y, hy, rfl⟩
      obtain ⟨e, t2, he, ey, hq⟩ := qD7.vals_at (kv := (y.1, y.2.2)) (j := z) (by unfold KN; rw [List.getElem?_map, hy]; rfl)
      obtain ⟨ey1, ey2⟩ := Prod.mk.inj ey
      obtain ⟨hk, hk8⟩ := hk7 y (List.mem_of_getElem? hy)
      have hem := List.mem_of_getElem? he
      obtain ⟨t, e1, qt⟩ := qD7.val_of edge_inj hem
      rw [ey1] at hk hk8
      have dp := (f e).den_pos
      have db := hb e hem
      have hlt : lcmL ((es.take z).map fun e => (f e).den) < 2 ^ (460 * ((es.take z).map fun e => (f e).den).length + 1) := lcmL_lt _ fun x hx => by
        obtain ⟨e', he', rfl⟩ := List.mem_map.mp hx
        exact hb e' (List.take_subset _ _ he')
      have hzl : ((es.take z).map fun e => (f e).den).length ≤ 1000 := by
        rw [List.length_map, List.length_take]
        omega
      dsimp only [gName]
      refine ⟨_, rfl, .ref d, rfl, _, rfl, d, y.2.1, KN xs, nkE e, _, rfl, rfl, ⟨o, xs, hfz, hk7, rfl⟩, hk, hk8, e1, t, _, _, _, rfl, rfl, qt, rfl, _, _, rfl, dp, bits_up db (by decide), bits_up hlt (by omega), ?_⟩
      refine ⟨some (.ref y.2.1), ?_, rfl⟩
      rw [take_snoc he, List.map_append, List.map_cons, List.map_nil, lcmL_snoc]
      rfl
    · rintro σ H8 ⟨v2, rfl, rfl⟩
      rw [xl, List.take_length]
      refine ⟨hfz, ?_⟩
      rw [eb]
      exact ⟨_, rfl, q⟩
theorem ok_lwt (T : Txt K mg) {j : Nat} : FnOk P w K mg base CX0 (j + 6) T.fLWt T.fdLWt ["weights"] (spLWt K) := by
  refine T.FLWt.ok scLWt (fun vs H Q E h => ?_) (fun cdv A outer s H vs Q E hr h => ?_)
  · obtain ⟨a, ws, rfl, _⟩ := h
    rfl
  · obtain ⟨a, ws, rfl, hA, hw, hl1, hl, q⟩ := h
    refine ⟨_, pss_one (ps_ret (pe_call (ok_lcnt T) hr (by rfl) T.gLCnt T.FLCnt.kp T.bLCnt .nil pass0 (pa_cons (pe_call (ok_lshs T) hr (by rfl) T.gLShs T.FLShs.kp T.bLShs .nil pass0 (pa_cons (pv 0) pa_nil)) pa_nil))), ?_⟩
    refine ⟨.ref a, rfl, a, ws, rfl, hA, hw, hl1, hl, fun H1 d kvs s1 nd hD qD => ⟨d, kvs, _, _, rfl, hD, qD, fun e he => ?_, ?_, q H1 s1⟩⟩
    · obtain ⟨k, hk, he⟩ := allD_mem.mp he
      obtain ⟨g1, g2, g3, g4, g5⟩ := due_in he
      exact (qb_lv (w := wf ws) (x := e.2) hw.pos (wS_small hw (by rw [List.length_range']; omega)) hl (asc_nodup g1) g3 (by omega) (wf_small hw e.2)).2
    · have := alld_len2 (n := ws.length) (k := ws.length) hl
      omega
end
/-! ### drawn numbers, the third kind -/
def DrwAt (H : Hp) (p : Addr) (m : Nat) : Prop := ∃ a b c : Int, H p = some (.lst [.int a, .int b, .int c]) ∧ (0 ≤ a ∧ a < 10 ^ 300) ∧ (0 ≤ b ∧ b < 2305843009213693951) ∧ 0 ≤ c ∧ c ≤ (m : Int)
theorem DrwAt.mono {H : Hp} {p : Addr} {m n : Nat} (h : DrwAt H p m) (l : m ≤ n) : DrwAt H p n := by
  obtain ⟨a, b, c, h1, h2, h3, h4, h5⟩ := h
  exact ⟨a, b, c, h1, h2, h3, h4, by omega⟩
theorem DrwAt.same {H H' : Hp} {p : Addr} {m : Nat} (h : DrwAt H p m) (s : Same H H') : DrwAt H' p m := by
  obtain ⟨a, b, c, h1, h2⟩ := h
  exact ⟨a, b, c, s _ _ h1, h2⟩
theorem DrwAt.ne {H : Hp} {p q : Addr} {m : Nat} (h : DrwAt H p m) (n : H q = none) : p ≠ q := by
  obtain ⟨a, b, c, h1, _⟩ := h
  exact ne_of_none h1 n
theorem DrwAt.lst {H : Hp} {p : Addr} {m : Nat} (h : DrwAt H p m) : ∃ ys, H p = some (.lst ys) := by
  obtain ⟨a, b, c, h1, _⟩ := h
  exact ⟨_, h1⟩
theorem DrwAt.upd {H : Hp} {p q : Addr} {m : Nat} {o : HO} (h : DrwAt H p m) (n : p ≠ q) : DrwAt (L2.upd H q o) p m := by
  obtain ⟨a, b, c, h1, h2⟩ := h
  exact ⟨a, b, c, by rw [upd_ne n]; exact h1, h2⟩
def spDrws (K : PySem.W.Frag) : Sp := fun vs H Q _ => ∃ (a : Addr) (ns : List Int) (i : Nat), vs = [.ref a, .int i] ∧ SqL K H a (ns.map V.int) ∧ i ≤ 100 ∧ ∀ H' p, Same H H' → H p = none → DrwAt H' p 0 → Q (.ref p) H'
def spBelow : Sp := fun vs H Q _ => ∃ (p : Addr) (m : Nat) (u : Int), vs = [.ref p, .int u] ∧ DrwAt H p m ∧ m ≤ 1000000 ∧ 1 ≤ u ∧ u < 2 ^ 1000 ∧
  ∀ (r : Int) (H' : Hp), 0 ≤ r → r < u → DrwAt H' p (m + 1) → But p H H' → Q (.int r) H'
theorem own_okD (x : Int) (c : Bool) : 0 ≤ x % ((10 : Int) ^ (60 : Int).toNat) ^ (5 : Int).toNat * (if c then 1 else 0) ∧ x % ((10 : Int) ^ (60 : Int).toNat) ^ (5 : Int).toNat * (if c then 1 else 0) < 10 ^ 300 := by
  have e : ((10 : Int) ^ (60 : Int).toNat) ^ (5 : Int).toNat = 10 ^ 300 := by decide +kernel
  rw [e]
  have h1 := Int.emod_nonneg x (show (10 : Int) ^ 300 ≠ 0 by decide +kernel)
  have h2 := Int.emod_lt_of_pos x (show (0 : Int) < 10 ^ 300 by decide +kernel)
  cases c with
  | true =>
    rw [if_pos rfl, Int.mul_one]
    exact ⟨h1, h2⟩
  | false =>
    rw [if_neg (by decide), Int.mul_zero]
    exact ⟨Int.le_refl _, by decide +kernel⟩
theorem big_posD : (0 : Int) < ((10 : Int) ^ (60 : Int).toNat) ^ (5 : Int).toNat := by decide +kernel
theorem bit_inD (c : Bool) : -(2 ^ 64) < (if c then (1 : Int) else 0) ∧ (if c then (1 : Int) else 0) < 2 ^ 64 := by
  cases c <;> decide
theorem prime_atD (i : Int) (h0 : 0 ≤ i) (h5 : i < 4) : ∃ v : Int, atI [V.int 2305843009213693951, V.int 999999999989, V.int 1000000000039, V.int 67280421310721] i = some (.int v) ∧ 0 < v ∧ v < 2 ^ 62 := by
  have h : i = 0 ∨ i = 1 ∨ i = 2 ∨ i = 3 := by omega
  rcases h with rfl | rfl | rfl | rfl
  · exact ⟨2305843009213693951, rfl, by decide, by decide⟩
  · exact ⟨999999999989, rfl, by decide, by decide⟩
  · exact ⟨1000000000039, rfl, by decide, by decide⟩
  · exact ⟨67280421310721, rfl, by decide, by decide⟩
section
variable {P : Program} {w : World} {K : PySem.W.Frag} {mg : Str → Option Value} {base : Heap}
theorem ok_drws (T : Txt K mg) {j : Nat} : FnOk P w K mg base CX0 (j + 1) T.fDrws T.fdDrws ["_law_script", "_law_k"] (spDrws K) := by
  refine T.FDrws.ok scDrws (fun vs H Q E h => ?_) (fun cdv A outer s H vs Q E hr h => ?_)
  · obtain ⟨a, ns, i, rfl, _⟩ := h
    rfl
  · obtain ⟨a, ns, i, rfl, hS, hi, q⟩ := h
    refine ⟨_, C8.pss_cut (ps_set (i := 2) scDrws.nd rfl (.inl rfl) (pe_ifExp (pt_cmpR op_lt (pv 1) (pe_callB (call_lenK K) (by rfl) T.n_len PySem.boot_len (pa_cons (pv 0) pa_nil)) (nomark _)) (pe_ix (ix_listK K) (pv 0) (pv 1) (fun _ _ => rfl)) (pe_op op_add (pe_op op_mul pe_int (pv 1)) pe_int))) (pss_cons (ps_set (i := 3) scDrws.nd rfl (.inl rfl) (pe_op op_mul (pe_op op_mod (pe_callB call_abs (by rfl) T.n_abs (by decide +kernel) (pa_cons (pv 2) pa_nil)) (pe_op op_powB (pe_op op_pow pe_int pe_int) pe_int)) (pe_callTy call_int1 (by rfl) T.n_int (by decide +kernel) (pa_cons (pe_cmpR op_ge (pe_callB call_abs (by rfl) T.n_abs (by decide +kernel) (pa_cons (pv 2) pa_nil)) (pe_op op_pow pe_int pe_int) (nomark _)) pa_nil)))) (pss_one (ps_ret (pe_lst (pa_cons (pv 3) (pa_cons (pe_op op_mod (pe_op op_mul (pe_op op_add (pe_op op_add (pe_op op_mod (pv 2) pe_int) (pe_op op_mul (pe_op op_mul pe_int (pv 1)) (pv 1))) pe_int) pe_int) pe_int) (pa_cons pe_int pa_nil))))))), ?_⟩
    refine ⟨fun σ H2 => ∃ x : Int, σ = [some (.ref a), some (.int i), some (.int x), none] ∧ H2 = H, ?_, ?_⟩
    · refine ⟨_, rfl, .ref a, rfl, a, _, rfl, .inl hS, _, _, rfl, rfl, _, rfl, ite2 (fun h1 => ?_) (fun h1 => ?_)⟩
      · have hlt : i < ns.length := by
          have h2 := of_decide_eq_true h1
          rw [List.length_map] at h2
          omega
        exact ⟨.ref a, rfl, _, rfl, a, _, _, _, rfl, rfl, hS, atI_nat (v := V.int ns[i]) (by rw [List.getElem?_map, List.getElem?_eq_getElem hlt]; rfl), _, rfl, rfl⟩
      · exact ⟨_, rfl, _, _, rfl, rfl, .inl ⟨by decide, by decide⟩, _, _, rfl, rfl, _, rfl, rfl⟩
    · rintro σ H2 ⟨x, rfl, rfl⟩
      refine ⟨_, rfl, _, rfl, _, _, rfl, rfl, ⟨by decide, by decide, by decide⟩, _, _, rfl, rfl, ⟨by decide, by decide +kernel⟩, _, _, rfl, rfl, big_posD, _, rfl, _, rfl, _, _, rfl, rfl, ⟨by decide, by decide, by decide⟩, _, _, rfl, rfl, .inr ⟨_, rfl, _, _, rfl, rfl, .inr (bit_inD _), ?_⟩⟩
      refine ⟨_, rfl, _, rfl, _, _, rfl, rfl, (show (0 : Int) < 2305843009213693951 by decide), _, rfl, _, _, rfl, rfl, .inl ⟨by decide, by decide⟩, _, rfl, _, _, rfl, rfl, .inr ⟨by omega, by omega⟩, _, _, rfl, rfl, _, _, rfl, rfl, _, _, rfl, rfl, .inr ⟨by decide, by decide⟩, _, _, rfl, rfl, (show (0 : Int) < 2305843009213693921 by decide), ?_⟩
      refine ⟨by show 3 ≤ sizeLine; decide, fun p np => ?_⟩
      refine q _ p (same_new np) np ⟨_, _, 0, upd_same, own_okD _ _, ⟨Int.emod_nonneg _ (by decide), Int.lt_trans (Int.emod_lt_of_pos _ (by decide)) (by decide)⟩, Int.le_refl _, Int.le_refl _⟩
theorem ok_below (T : Txt K mg) {j : Nat} : FnOk P w K mg base CX0 (j + 1) T.fBelow T.fdBelow ["_law_draws_here", "_law_many"] spBelow := by
  refine T.FBelow.ok scBelow (fun vs H Q E h => ?_) (fun cdv A outer s H vs Q E hr h => ?_)
  · obtain ⟨p, m, u, rfl, _⟩ := h
    rfl
  · obtain ⟨p, m, u, rfl, ⟨a, b, c, hp, ha, hb, hc0, hcm⟩, hm, hu1, hu2, q⟩ := h
    refine ⟨_, pss_cons (ps_if (pt_cmpR op_gt (pe_ix (ix_listK K) (pv 0) pe_int (fun _ _ => rfl)) pe_int (nomark _)) (pss_cons (ps_set (i := 2) scBelow.nd rfl (.inl rfl) (pe_op op_mod (pe_ix (ix_listK K) (pv 0) pe_int (fun _ _ => rfl)) (pv 1))) (pss_cons (ps_asg (pe_op op_fdivW (pe_ix (ix_listK K) (pv 0) pe_int (fun _ _ => rfl)) (pv 1)) (pg_sub (pv 0) pe_int set_list)) (pss_one (ps_ret (pv 2))))) pss_nil) (pss_cons (ps_set (i := 3) scBelow.nd rfl (.inl rfl) (pe_op op_add (pe_ix (ix_listK K) (pv 0) pe_int (fun _ _ => rfl)) pe_int)) (pss_cons (ps_asg (pv 3) (pg_sub (pv 0) pe_int set_list)) (pss_cons (ps_set (i := 4) scBelow.nd rfl (.inl rfl) (pe_ix (ix_listK K) (pe_lst (pa_cons pe_int (pa_cons pe_int (pa_cons pe_int (pa_cons pe_int pa_nil))))) (pe_op op_mod (pv 3) pe_int) (fun _ _ => rfl))) (pss_cons (ps_set (i := 5) scBelow.nd rfl (.inl rfl) (pe_op op_mod (pe_op op_add (pe_op op_add (pe_ix (ix_listK K) (pv 0) pe_int (fun _ _ => rfl)) (pe_op op_mul (pe_op op_mul pe_int (pv 3)) (pv 3))) (pe_op op_mul pe_int (pv 3))) (pv 4))) (pss_cons (ps_set (i := 5) scBelow.nd rfl (.inl rfl) (pe_op op_mod (pe_op op_pow (pv 5) pe_int) (pv 4))) (pss_one (ps_ret (pe_op op_mod (pe_op op_add (pe_op op_fdiv (pv 5) pe_int) (pe_op op_mul (pe_op op_fdiv (pv 5) pe_int) pe_int)) (pv 1))))))))), ?_⟩
    refine ⟨.ref p, rfl, p, _, _, _, rfl, rfl, SqL.of hp, rfl, _, _, rfl, rfl, _, rfl, ite2 (fun h1 => ?_) (fun h1 => ?_)⟩
    · have h0 : 0 < a := of_decide_eq_true h1
      refine ⟨.ref p, rfl, p, _, _, _, rfl, rfl, SqL.of hp, rfl, _, rfl, _, _, rfl, rfl, by omega, ?_⟩
      refine ⟨.ref p, rfl, p, _, _, _, rfl, rfl, SqL.of hp, rfl, _, rfl, _, _, rfl, rfl, wide_div (b := 1000) (by omega) (by omega) (by decide) (by decide), ?_⟩
      refine ⟨.ref p, rfl, p, _, _, 0, rfl, rfl, hp, rfl, ?_⟩
      refine ⟨_, rfl, q _ _ (Int.emod_nonneg _ (by omega)) (Int.emod_lt_of_pos _ (by omega)) ⟨a / u, b, c, upd_same, ?_, hb, hc0, by omega⟩ (But.refl p H).upd⟩
      have h3 : a / u ≤ a := Int.ediv_le_self _ (by omega)
      exact ⟨Int.ediv_nonneg (by omega) (by omega), by omega⟩
    · refine ⟨.ref p, rfl, p, _, _, _, rfl, rfl, SqL.of hp, rfl, _, _, rfl, rfl, ?_⟩
      dsimp only [gName]
      refine ⟨_, rfl, .ref p, rfl, p, _, _, 2, rfl, rfl, hp, rfl, ?_⟩
      have hp2 : (upd H p (.lst [V.int a, V.int b, V.int (c + 1)])) p = some (.lst [V.int a, V.int b, V.int (c + 1)]) := upd_same
      obtain ⟨v, ev, v0, v32⟩ := prime_atD ((c + 1) % 4) (Int.emod_nonneg _ (by decide)) (Int.emod_lt_of_pos _ (by decide))
      refine ⟨by show 4 ≤ sizeLine; decide, fun l nl => ?_⟩
      have npl : p ≠ l := ne_of_none hp2 nl
      have hp3 : (upd (upd H p (.lst [V.int a, V.int b, V.int (c + 1)])) l (.lst [V.int 2305843009213693951, V.int 999999999989, V.int 1000000000039, V.int 67280421310721])) p = some (.lst [V.int a, V.int b, V.int (c + 1)]) := by
        rw [upd_ne npl]
        exact hp2
      refine ⟨_, rfl, _, _, rfl, rfl, (show (0 : Int) < 4 by decide), l, _, _, _, rfl, rfl, SqL.of upd_same, ev, ?_⟩
      dsimp only [gName]
      refine ⟨.ref p, rfl, p, _, _, _, rfl, rfl, SqL.of hp3, rfl, _, rfl, _, _, rfl, rfl, .inl ⟨by decide, by decide⟩, _, rfl, _, _, rfl, rfl, .inr ⟨by omega, by omega⟩, _, _, rfl, rfl, _, rfl, _, _, rfl, rfl, .inl ⟨by decide, by decide⟩, _, _, rfl, rfl, _, rfl, _, _, rfl, rfl, v0, ?_⟩
      dsimp only [gName]
      have e0 := Int.emod_nonneg (b + 7919 * (c + 1) * (c + 1) + 65537 * (c + 1)) (show v ≠ 0 by omega)
      have e1 := Int.emod_lt_of_pos (b + 7919 * (c + 1) * (c + 1) + 65537 * (c + 1)) v0
      generalize (b + 7919 * (c + 1) * (c + 1) + 65537 * (c + 1)) % v = x at e0 e1 ⊢
      refine ⟨_, rfl, _, _, rfl, rfl, ⟨by decide, by decide, by omega⟩, _, rfl, _, _, rfl, rfl, v0, ?_⟩
      dsimp only [gName]
      refine ⟨_, rfl, _, _, rfl, rfl, ⟨by decide, by decide⟩, _, rfl, _, _, rfl, rfl, ⟨by decide, by decide⟩, _, _, rfl, rfl, .inr ⟨by decide, by decide⟩, _, _, rfl, rfl, _, rfl, _, _, rfl, rfl, by omega, ?_⟩
      refine q _ _ (Int.emod_nonneg _ (by omega)) (Int.emod_lt_of_pos _ (by omega)) ⟨a, b, c + 1, hp3, ha, hb, by omega, by omega⟩ ?_
      exact (But.refl p H).upd.same (same_new nl)
end
/-! ### one of some items, a list or a tuple -/
theorem SqT_butD {K : PySem.W.Frag} {H H' : Hp} {a p : Addr} {xs ys : List V} (h : SqT K H a xs) (hp : H p = some (.lst ys)) (b : But p H H') : SqT K H' a xs := by
  rcases h with (h | ⟨o, h⟩) | h
  · exact .inl (.inl (b _ _ (fun c => by rw [c, hp] at h; cases h) h))
  · exact .inl (.inr ⟨o, b _ _ (fun c => by rw [c, hp] at h; cases h) h⟩)
  · exact .inr h
def spPickD (K : PySem.W.Frag) : Sp := fun vs H Q _ => ∃ (p : Addr) (m : Nat) (l : Addr) (xs : List V), vs = [.ref p, .ref l] ∧ DrwAt H p m ∧ m ≤ 1000000 ∧ l ≠ p ∧ (H l = some (.lst xs) ∨ SqT K H l xs) ∧ 1 ≤ xs.length ∧ xs.length ≤ 100000 ∧
  ∀ (v : V) (H' : Hp), v ∈ xs → DrwAt H' p (m + 1) → But p H H' → Q v H'
section
variable {P : Program} {w : World} {K : PySem.W.Frag} {mg : Str → Option Value} {base : Heap}
theorem ok_pickd (T : Txt K mg) {j : Nat} : FnOk P w K mg base CX0 (j + 2) T.fPickD T.fdPickD ["_law_draws_here", "_law_items"] (spPickD K) := by
  refine T.FPickD.ok scPickD (fun vs H Q E h => ?_) (fun cdv A outer s H vs Q E hr h => ?_)
  · obtain ⟨p, m, l, xs, rfl, _⟩ := h
    rfl
  · obtain ⟨p, m, l, xs, rfl, P0, hm, hne, hl, h1, h2, q⟩ := h
    refine ⟨_, pss_one (ps_ret (pe_ix (ix_either K) (pv 1) (pe_call (ok_below T) hr (by rfl) T.gBelow T.FBelow.kp T.bBelow .nil pass0 (pa_cons (pv 0) (pa_cons (pe_callB (call_lenK K) (by rfl) T.n_len PySem.boot_len (pa_cons (pv 1) pa_nil)) pa_nil))) (fun _ _ => rfl))), ?_⟩
    obtain ⟨ys, hp⟩ := P0.lst
    have hl2 : SqL K H l xs ∨ SqT K H l xs := hl.imp (fun z => SqL.of z) id
    refine ⟨.ref l, rfl, .ref p, rfl, .ref l, rfl, l, _, rfl, hl2, p, m, _, rfl, P0, hm, by omega, ?_, fun r H' r0 rl P1 B1 => ?_⟩
    · exact Int.lt_trans (show (xs.length : Int) < 100001 by omega) (by decide +kernel)
    · obtain ⟨k, rfl⟩ := Int.eq_ofNat_of_zero_le r0
      have hk : k < xs.length := by omega
      have ev := atI_nat (List.getElem?_eq_getElem hk)
      rcases hl with z | z
      · exact .inl ⟨l, xs, _, xs[k], rfl, rfl, SqL.of (B1 _ _ hne z), ev, q _ H' (List.getElem_mem hk) P1 B1⟩
      · exact .inr ⟨l, xs, _, xs[k], rfl, rfl, SqT_butD z hp B1, ev, q _ H' (List.getElem_mem hk) P1 B1⟩
end
/-! ### drawn weights -/
def spWts (K : PySem.W.Frag) : Sp := fun vs H Q _ => ∃ (p : Addr) (m l n t : Nat), vs = [.ref p, .int l, .int n, .int t] ∧ DrwAt H p m ∧ m ≤ 900000 ∧ 1 ≤ l ∧ l ≤ n ∧ n ≤ 60 ∧ 1 ≤ t ∧ t ≤ 1000 ∧
  ∀ H' a ws, But p H H' → DrwAt H' p (m + 1 + ws.length) → H a = none → H' a = some (.tup (setV ws)) → l ≤ ws.length → ws.length ≤ n → (∀ x ∈ ws, 1 ≤ x ∧ x ≤ t) → Q (.ref a) H'
section
variable {P : Program} {w : World} {K : PySem.W.Frag} {mg : Str → Option Value} {base : Heap}
theorem ok_wts (T : Txt K mg) {j : Nat} : FnOk P w K mg base CX0 (j + 2) T.fWts T.fdWts ["_law_draws_here", "_law_least_here", "_law_most", "_law_top"] (spWts K) := by
  refine T.FWts.ok scWts (fun vs H Q E h => ?_) (fun cdv A outer s H vs Q E hr h => ?_)
  · obtain ⟨p, m, l, n, t, rfl, _⟩ := h
    rfl
  · obtain ⟨p, m, l, n, t, rfl, P0, hm, hl1, hln, hn, ht1, ht2, q⟩ := h
    refine ⟨_, pss_one (ps_ret (pe_callTy (call_tupleK K) (by rfl) T.n_tuple (by decide +kernel) (pa_cons (pe_lc (own := [("_law_server", 4)]) (g := (gName 4)) (tt := tYes) rfl scWts.nd (pi_range1 (by rfl) T.n_range (pa_cons (pe_op op_add (pv 1) (pe_call (ok_below T) hr (by rfl) T.gBelow T.FBelow.kp T.bBelow .nil pass0 (pa_cons (pv 0) (pa_cons (pe_op op_add (pe_op op_sub (pv 2) (pv 1)) pe_int) pa_nil)))) pa_nil)) (blkOk_by (own := [("_law_server", 4)]) (N := NWts) (sc := defScope sWts) (by decide +kernel)) (fun _ _ _ _ _ => (pg_name (i := 4) scWts.nd rfl (.inl rfl))) (fun _ _ _ _ _ => pts_nil) (fun _ _ _ _ _ => (pe_op op_add pe_int (pe_call (ok_below T) hr (by rfl) T.gBelow T.FBelow.kp T.bBelow .nil pass0 (pa_cons (pv 0) (pa_cons (pv 3) pa_nil)))))) pa_nil))), ?_⟩
    refine ⟨_, rfl, .ref p, rfl, _, rfl, _, rfl, _, _, rfl, rfl, _, _, rfl, rfl, p, m, _, rfl, P0, by omega, by omega, ?_, fun r H1 r0 rl P1 B1 => ?_⟩
    · exact Int.lt_trans (show (n : Int) - (l : Int) + 1 < 100 by omega) (by decide +kernel)
    obtain ⟨r, rfl⟩ := Int.eq_ofNat_of_zero_le r0
    have hr2 : l + r ≤ n := by omega
    refine ⟨_, _, rfl, rfl, _, rfl, by omega, by omega, fun D nD => ?_⟩
    have nDp : D ≠ p := (P1.ne nD).symm
    have nD0 : H D = none := but_free B1 nD nDp
    refine lc_range (lo := 0) (n := ((l : Int) + (r : Int)).toNat) (fun z H2 => ∃ L : List Nat, H2 D = some (.lst (setV L)) ∧ L.length = z ∧ (∀ x ∈ L, 1 ≤ x ∧ x ≤ t) ∧ DrwAt H2 p (m + 1 + z) ∧ But p H H2) ⟨[], upd_same, rfl, fun _ h => absurd h List.not_mem_nil, P1.same (same_new nD), but_new B1 nD0⟩ ?_ ?_
    · rintro z H2 hz ⟨L, hD, hL, hx, P2, B2⟩
      refine ⟨rfl, .ref p, rfl, _, rfl, p, _, _, rfl, P2, by omega, by omega, ?_, fun y H3 y0 yl P3 B3 => ?_⟩
      · exact Int.lt_trans (show (t : Int) < 2000 by omega) (by decide +kernel)
      obtain ⟨y, rfl⟩ := Int.eq_ofNat_of_zero_le y0
      have hD3 := B3 _ _ nDp hD
      refine ⟨_, _, rfl, rfl, _, hD3, ?_, L ++ [1 + y], ?_, ?_, ?_, ?_, ?_⟩
      · rw [setV_len]
        exact small1000 (by omega)
      · rw [upd_same, setV_app]
        rfl
      · rw [List.length_append, hL]
        rfl
      · intro x h
        rcases List.mem_append.mp h with h | h
        · exact hx x h
        · rw [List.mem_singleton.mp h]
          omega
      · exact P3.upd nDp.symm
      · exact but_new (B2.trans B3) nD0
    · rintro H2 ⟨L, hD, hL, hx, P2, B2⟩
      have e : ((l : Int) + (r : Int)).toNat = l + r := by omega
      rw [e] at hL P2
      refine ⟨D, _, rfl, .inl ⟨SqL.of hD, fun a na => ?_⟩⟩
      have nap : a ≠ p := (P2.ne na).symm
      refine q _ a L (B2.same (same_new na)) ?_ (but_free B2 na nap) upd_same (by omega) (by omega) hx
      rw [hL]
      exact P2.same (same_new na)
end
/-! ### the law's least number of lists -/
def spLeast34 (K : PySem.W.Frag) : Sp := fun vs H Q _ => ∃ (a : Addr) (ws : List Nat), vs = [.ref a] ∧ SqT K H a (setV ws) ∧ WtOk ws ∧ 1 ≤ ws.length ∧ ws.length ≤ 6 ∧ ∀ H', Same H H' → Q (.int (leastQ (wf ws) ws.length : Nat)) H'
section
variable {P : Program} {w : World} {K : PySem.W.Frag} {mg : Str → Option Value} {base : Heap}
theorem ok_least34 (T : Txt K mg) {j : Nat} : FnOk P w K mg base CX0 (j + 5) T.fLeast34 T.fdLeast34 ["_law_weights_here"] (spLeast34 K) := by
  refine T.FLeast34.ok scLeast34 (fun vs H Q E h => ?_) (fun cdv A outer s H vs Q E hr h => ?_)
  · obtain ⟨a, ws, rfl, _⟩ := h
    rfl
  · obtain ⟨a, ws, rfl, hA, hw, hl1, hl, q⟩ := h
    refine ⟨_, pss_cons (ps_set (i := 1) scLeast34.nd rfl (.inl rfl) pe_int) (pss_cons (ps_for PassesOwn.never rfl (pi_valuesL (P := P) (w := w) (pe_call (ok_shs T) hr (by rfl) T.gShs T.FShs.kp T.bShs .nil pass0 (pa_cons (pv 0) pa_nil))) (pg_tup rfl (pgs_cons (pg_name (i := 2) scLeast34.nd rfl (.inl rfl)) (pgs_cons (pg_name (i := 3) scLeast34.nd rfl (.inl rfl)) pgs_nil))) (pss_one (ps_set (i := 1) scLeast34.nd rfl (.inl rfl) (pe_op op_mulW (pe_op op_fdivW (pv 1) (pe_call (ok_common T) hr (by rfl) T.gCommon T.FCommon.kp T.bCommon .nil pass0 (pa_cons (pv 1) (pa_cons (pv 3) pa_nil)))) (pv 3))))) (pss_one (ps_ret (pv 1)))), ?_⟩
    refine ⟨.ref a, rfl, a, ws, rfl, hA, hw, hl1, hl, fun H6 d kvs s6 nd hD qD => ?_⟩
    obtain ⟨xs, eD, hxD, rfl⟩ := id hD
    refine ⟨d, xs, rfl, eD, fun o => ?_⟩
    have s7 : Same H (upd H6 d (.frz o (DN P w d xs))) := dsame_upd s6 nd
    have hfz : (upd H6 d (.frz o (DN P w d xs))) d = some (.frz o (DN P w d xs)) := upd_same
    have qD7 : QD K (upd H6 d (.frz o (DN P w d xs))) nkE (lvE (wf ws) ws.length) (KN xs) (allD ws.length ws.length) := qD.mono fun _ _ h => SqT_updE h eD
    generalize upd H6 d (.frz o (DN P w d xs)) = H7 at s7 hfz qD7
    have hb : ∀ e ∈ allD ws.length ws.length, (lvE (wf ws) ws.length e).den < 2 ^ 460 := fun e he => by
      obtain ⟨k, hk, he⟩ := allD_mem.mp he
      obtain ⟨g1, g2, g3, g4, g5⟩ := due_in he
      exact (qb_lv (w := wf ws) (x := e.2) hw.pos (wS_small hw (by rw [List.length_range']; omega)) hl (asc_nodup g1) g3 (by omega) (wf_small hw e.2)).2
    have hlen := alld_len2 (n := ws.length) (k := ws.length) hl
    have xl := qD7.len
    unfold KN at xl
    rw [List.length_map] at xl
    unfold leastQ at q
    generalize allD ws.length ws.length = es at qD7 hb hlen xl q
    generalize lvE (wf ws) ws.length = g at qD7 hb q
    refine for_it (walk_valsN (P := P) (w := w) (d := d) (o := o) (xs := xs)) (fun z σ H8 => ∃ v2 v3, σ = [some (.ref a), some (.int ((lcmL ((es.take z).map fun e => (g e).den) : Nat) : Int)), v2, v3] ∧ H8 = H7) ⟨none, none, rfl, rfl⟩ (fun _ σ H8 _ ⟨_, _, _, e⟩ => by rw [e]; exact hfz) ?_ ?_
    · rintro z v σ H8 H9 hz ⟨v2, v3, rfl, rfl⟩ ⟨rfl, y, hy, rfl⟩
      obtain ⟨e, t2, he, ey, hq⟩ := qD7.vals_at (kv := (y.1, y.2.2)) (j := z) (by unfold KN; rw [List.getElem?_map, hy]; rfl)
      obtain ⟨ey1, ey2⟩ := Prod.mk.inj ey
      have hem := List.mem_of_getElem? he
      have dp := (g e).den_pos
      have db := hb e hem
      have hlt : lcmL ((es.take z).map fun e => (g e).den) < 2 ^ (460 * ((es.take z).map fun e => (g e).den).length + 1) := lcmL_lt _ fun x hx => by
        obtain ⟨e', he', rfl⟩ := List.mem_map.mp hx
        exact hb e' (List.take_subset _ _ he')
      have hzl : ((es.take z).map fun e => (g e).den).length ≤ 600 := by
        rw [List.length_map, List.length_take]
        omega
      rw [ey2]
      refine ⟨t2, _, rfl, hq, rfl, _, _, rfl, _, _, rfl, rfl, ?_⟩
      have g0 : 0 < Nat.gcd (lcmL ((es.take z).map fun e => (g e).den)) (g e).den := Nat.gcd_pos_of_pos_right _ dp
      have g1 : Nat.gcd (lcmL ((es.take z).map fun e => (g e).den)) (g e).den ≤ (g e).den := Nat.gcd_le_right _ dp
      refine ⟨_, rfl, _, rfl, _, rfl, _, _, rfl, ?_⟩
      refine ⟨_, _, rfl, rfl, wide_div (b := 8000) (Int.ofNat_lt.mpr g0) (by rw [Int.natAbs_natCast]; exact Nat.lt_of_le_of_lt g1 (bits_up db (by decide))) (by decide) (by decide), _, rfl, _, _, rfl, rfl, ?_, ?_⟩
      · rw [← Int.natCast_ediv]
        exact wide_mul (a := 500000) (b := 8000) (by rw [Int.natAbs_natCast]; exact Nat.lt_of_le_of_lt (Nat.div_le_self _ _) (bits_up hlt (by omega))) (by rw [Int.natAbs_natCast]; exact bits_up db (by decide)) (by decide) (by decide) (by decide)
      refine ⟨some (.int (g e).num), some (.int ((g e).den : Int)), ?_, rfl⟩
      rw [take_snoc he, List.map_append, List.map_cons, List.map_nil, lcmL_snoc]
      unfold stepL
      rw [Int.natCast_mul, Int.natCast_ediv]
      rfl
    · rintro σ H8 ⟨v2, v3, rfl, rfl⟩
      rw [xl, List.take_length]
      exact ⟨_, rfl, q H8 s7⟩
end
/-! ### the law -/
theorem least_fold : ∀ n, n ≤ 6 → 2 ≤ n → leastL n n = lcmL (List.range' 2 (n - 1)) := by decide +kernel
theorem fold_small : ∀ z, z ≤ 5 → lcmL (List.range' 2 z) ≤ 60 := by decide +kernel
theorem lg {n : Nat} (h : n < 2 ^ 833) : ((n : Int)).natAbs.log2 < 1920 := by
  rw [Int.natAbs_natCast]
  have := PySem.Flt.log2_lt_of (k := 833) (by decide) h
  omega
theorem wf_rep {n c x : Nat} (h : x < n) : wf (List.replicate n c) x = c := by
  unfold wf
  rw [List.getD_eq_getElem?_getD, List.getElem?_replicate, if_pos h]
  rfl
theorem rep_flat (n c : Nat) : (List.replicate n [V.int (c : Int)]).flatten = setV (List.replicate n c) := by
  induction n with
  | zero => rfl
  | succ n ih =>
    rw [List.replicate_succ, List.flatten_cons, ih, List.replicate_succ]
    rfl
def spLaw (K : PySem.W.Frag) : Sp := fun vs H Q _ => ∃ (a : Addr) (ns : List Int), vs = [.ref a] ∧ SqL K H a (ns.map V.int) ∧ ns.length ≤ 63 ∧ ∀ H', Q (.bl true) H'
section
variable {P : Program} {w : World} {K : PySem.W.Frag} {mg : Str → Option Value} {base : Heap}
theorem ok_law {f : Addr} {fd : FuncData} (F : Fun K "law" "law" sLaw f fd) (T : Txt K mg) : FnG P w K mg base CX0 9 f fd ["_law_script"] (spLaw K) := by
  refine Fun_ok0 F scLaw (fun vs H Q E h => ?_) (fun cdv A outer s H vs Q E gd hr h => ?_)
  · obtain ⟨a, ns, rfl, _⟩ := h
    rfl
  · obtain ⟨a, ns, rfl, hS, hlen, q⟩ := h
    have hu66 : (A.deeper (envOfC "law" (defScope sLaw) s.heap.objs.size f cdv)).units + 66 < cLine := by
      have := hr.un
      omega
    refine ⟨_, pss_cons (ps_for PassesOwn.never rfl (pi_range1 (by rfl) T.n_range (pa_cons (pe_callB (call_max2 rfl) (by rfl) T.n_max (by decide +kernel) (pa_cons pe_int (pa_cons (pe_callB (call_min2 rfl) (by rfl) T.n_min (by decide +kernel) (pa_cons pe_int (pa_cons (pe_callB (call_lenK K) (by rfl) T.n_len PySem.boot_len (pa_cons (pv 0) pa_nil)) pa_nil))) pa_nil))) pa_nil)) (pg_name (i := 1) scLaw.nd rfl (.inl rfl)) (pss_cons (ps_set (i := 2) scLaw.nd rfl (.inl rfl) (pe_call (ok_drws T) hr (by rfl) T.gDrws T.FDrws.kp T.bDrws .nil pass0 (pa_cons (pv 0) (pa_cons (pv 1) pa_nil)))) (pss_cons (ps_set (i := 3) scLaw.nd rfl (.inl rfl) (pe_call (ok_wts T) hr (by rfl) T.gWts T.FWts.kp T.bWts .nil pass0 (pa_cons (pv 2) (pa_cons pe_int (pa_cons pe_int (pa_cons (pe_call (ok_pickd T) hr (by rfl) T.gPickD T.FPickD.kp T.bPickD .nil pass0 (pa_cons (pv 2) (pa_cons (pe_lst (pa_cons pe_int (pa_cons pe_int (pa_cons pe_int (pa_cons pe_int pa_nil))))) pa_nil))) pa_nil)))))) (pss_cons (ps_if (pt_cmpR op_ne (pe_callB SkE.call_repr_int (by rfl) T.n_repr (by decide +kernel) (pa_cons (pe_call (ok_lwt T) hr (by rfl) T.gLWt T.FLWt.kp T.bLWt .nil pass0 (pa_cons (pv 3) pa_nil)) pa_nil)) (pe_callB SkE.call_repr_int (by rfl) T.n_repr (by decide +kernel) (pa_cons (pe_call (ok_least34 T) hr (by rfl) T.gLeast34 T.FLeast34.kp T.bLeast34 .nil pass0 (pa_cons (pv 3) pa_nil)) pa_nil)) (nomark _)) (pss_one (ps_ret pe_bl)) pss_nil) (pss_cons (ps_set (i := 4) scLaw.nd rfl (.inl rfl) (pe_call (ok_wts T) hr (by rfl) T.gWts T.FWts.kp T.bWts .nil pass0 (pa_cons (pv 2) (pa_cons pe_int (pa_cons pe_int (pa_cons pe_int pa_nil)))))) (pss_cons (ps_if (pt_cmpR op_ne (pe_call (ok_lwt T) hr (by rfl) T.gLWt T.FLWt.kp T.bLWt .nil pass0 (pa_cons (pv 4) pa_nil)) (pe_op op_fdivW (pe_callB (cr_sumT K) (by rfl) T.n_sum (by decide +kernel) (pa_cons (pv 4) pa_nil)) (pe_call (ok_common T) hr (by rfl) T.gCommon T.FCommon.kp T.bCommon .nil pass0 (pa_cons (pe_ix (ix_tupK K) (pv 4) pe_int (fun _ _ => rfl)) (pa_cons (pe_ix (ix_tupK K) (pv 4) pe_int (fun _ _ => rfl)) pa_nil)))) (nomark _)) (pss_one (ps_ret pe_bl)) pss_nil) (pss_cons (ps_par (i := 5) (j := 6) rfl scLaw.nd rfl rfl (by decide) rfl rfl (pa_cons (pe_op op_add pe_int (pe_call (ok_below T) hr (by rfl) T.gBelow T.FBelow.kp T.bBelow .nil pass0 (pa_cons (pv 2) (pa_cons pe_int pa_nil)))) (pa_cons pe_int pa_nil)) (by rfl)) (pss_cons (ps_for PassesOwn.never rfl (pi_range2 (by rfl) T.n_range (pa_cons pe_int (pa_cons (pe_op op_add (pv 5) pe_int) pa_nil))) (pg_name (i := 7) scLaw.nd rfl (.inl rfl)) (pss_one (ps_set (i := 6) scLaw.nd rfl (.inl rfl) (pe_op op_mul (pe_op op_fdivW (pv 6) (pe_call (ok_common T) hr (by rfl) T.gCommon T.FCommon.kp T.bCommon .nil pass0 (pa_cons (pv 6) (pa_cons (pv 7) pa_nil)))) (pv 7))))) (pss_one (ps_if (pt_cmpR op_ne (pe_call (ok_lwt T) hr (by rfl) T.gLWt T.FLWt.kp T.bLWt .nil pass0 (pa_cons (pe_op (op_repT1 (K := K)) (pe_tup (pa_cons (pe_op op_add pe_int (pe_call (ok_below T) hr (by rfl) T.gBelow T.FBelow.kp T.bBelow .nil pass0 (pa_cons (pv 2) (pa_cons pe_int pa_nil)))) pa_nil)) (pv 5)) pa_nil)) (pv 6) (nomark _)) (pss_one (ps_ret pe_bl)) pss_nil)))))))))) (pss_one (ps_ret pe_bl)), ?_⟩
    refine ⟨.ref a, rfl, a, _, rfl, .inl hS, _, _, rfl, _, _, rfl, _, rfl, ?_, ?_, ?_⟩
    · split <;> split <;> omega
    · split <;> split <;> omega
    refine for_range (lo := 0) (fun i σ H2 => ∃ v1 v2 v3 v4 v5 v6 v7, σ = [some (.ref a), v1, v2, v3, v4, v5, v6, v7] ∧ Same H H2) ⟨none, none, none, none, none, none, none, rfl, Same.refl _⟩ ?_ ?_
    · rintro i σ H2 hi ⟨v1, v2, v3, v4, v5, v6, v7, rfl, s2⟩
      have hi3 : i < 3 := by
        refine Nat.lt_of_lt_of_le hi ?_
        split <;> split <;> omega
      rw [Int.zero_add]
      refine ⟨.ref a, rfl, _, rfl, a, ns, i, rfl, s2.seq hS, by omega, fun H3 p s3 np P3 => ?_⟩
      have fp : H p = none := s2.free np
      have B3 : But p H H3 := But.of (s2.trans s3)
      clear s2 s3
      dsimp only [gName]
      -- weights
      refine ⟨.ref p, rfl, .ref p, rfl, by show 4 ≤ sizeLine; decide, fun pl npl => ?_⟩
      have z1 := same_new (o := .lst [V.int 1, V.int 2, V.int 9, V.int 1000]) npl
      refine ⟨p, 0, pl, _, rfl, P3.same z1, by decide, (P3.ne npl).symm, .inl upd_same, by decide, by decide, fun v H4 hv P4 B4 => ?_⟩
      obtain ⟨t, rfl, ht1, ht2⟩ : ∃ t : Nat, v = .int (t : Int) ∧ 1 ≤ t ∧ t ≤ 1000 := by
        rcases List.mem_cons.mp hv with rfl | hv
        · exact ⟨1, rfl, by decide, by decide⟩
        rcases List.mem_cons.mp hv with rfl | hv
        · exact ⟨2, rfl, by decide, by decide⟩
        rcases List.mem_cons.mp hv with rfl | hv
        · exact ⟨9, rfl, by decide, by decide⟩
        · rw [List.mem_singleton.mp hv]
          exact ⟨1000, rfl, by decide, by decide⟩
      refine ⟨p, _, 2, 6, t, rfl, P4, by decide, by decide, by decide, by decide, ht1, ht2, fun H5 ca ws B5 P5 nca hca hw1 hw2 hwx => ?_⟩
      have B15 := ((B3.same z1).trans B4).trans B5
      have hw : WtOk ws := ⟨by omega, fun x hx => by have := hwx x hx; omega⟩
      have lq := leastQ_bound (w := wf ws) hw.pos hw2 (wS_small hw (by rw [List.length_range']; omega))
      clear B3 z1 npl B4 P4 B5 P3 hv
      dsimp only [gName]
      refine ⟨_, rfl, ca, ws, rfl, SqT.of hca, hw, by omega, hw2, fun H6 s6 => ⟨_, rfl, lg lq, _, rfl, ca, ws, rfl, SqT.of (s6 _ _ hca), hw, by omega, hw2, fun H7 s7 => ⟨_, rfl, lg lq, rfl, _, rfl, iteNS rfl ?_⟩⟩⟩
      have P7 := P5.same (s6.trans s7)
      have B17 := B15.same (s6.trans s7)
      clear P5 B15 hca s6 s7 lq
      -- two weights
      refine ⟨.ref p, rfl, p, _, 2, 2, 1000, rfl, P7, by omega, by decide, by decide, by decide, by decide, by decide, fun H8 cb wt B8 P8 ncb hcb h21 h22 hwx2 => ?_⟩
      have hwt : WtOk wt := ⟨by omega, fun x hx => by have := hwx2 x hx; omega⟩
      have hl2 : wt.length = 2 := by omega
      obtain ⟨u, v, rfl⟩ : ∃ u v, wt = [u, v] := by
        match wt, hl2 with
        | [u, v], _ => exact ⟨u, v, rfl⟩
      have hu := hwx2 u List.mem_cons_self
      have hv := hwx2 v (List.mem_cons_of_mem _ List.mem_cons_self)
      have B18 := B17.trans B8
      dsimp only [gName]
      refine ⟨_, rfl, cb, [u, v], rfl, SqT.of hcb, hwt, by show 1 ≤ 2; decide, by show 2 ≤ 6; decide, fun H9 s9 => ?_⟩
      have hcb9 := s9 _ _ hcb
      have e2 : leastQ (wf [u, v]) 2 = (u + v) / Nat.gcd u v := two_least (w := wf [u, v]) (by show 0 < u; omega) (by show 0 < v; omega)
      have g0 : 0 < Nat.gcd u v := Nat.gcd_pos_of_pos_left _ (by omega)
      have g1 : Nat.gcd u v ≤ u := Nat.gcd_le_left _ (by omega)
      refine ⟨_, rfl, cb, [(u : Int), (v : Int)], rfl, SqT.of hcb9, .ref cb, rfl, cb, _, _, _, rfl, rfl, SqT.of hcb9, rfl, .ref cb, rfl, cb, _, _, _, rfl, rfl, SqT.of hcb9, rfl, u, v, rfl, _, _, rfl, rfl, wide_div (b := 64) (Int.ofNat_lt.mpr g0) (by rw [Int.natAbs_natCast]; exact Nat.lt_of_le_of_lt g1 (by omega)) (by decide) (by decide), rfl, _, rfl, iteNS ?_ ?_⟩
      · show V.int ((leastQ (wf [u, v]) 2 : Nat) : Int) = V.int (((u : Int) + ((v : Int) + 0)) / ((Nat.gcd u v : Nat) : Int))
        rw [e2, Int.natCast_ediv, Int.natCast_add, Int.add_zero]
      have P9 := P8.same s9
      have B19 := B18.same s9
      clear P7 P8 B17 B18 hcb hcb9 s9 B8
      -- equal weights
      refine ⟨.ref p, rfl, p, _, 5, rfl, P9, by show 0 + 1 + 1 + ws.length + 1 + 2 ≤ 1000000; omega, by decide, by decide +kernel, fun r H10 r0 rl P10 B10 => ⟨_, _, rfl, rfl, _, _, rfl, ?_⟩⟩
      obtain ⟨r, rfl⟩ := Int.eq_ofNat_of_zero_le r0
      dsimp only
      rw [show (2 : Int) + (r : Int) = ((2 + r : Nat) : Int) by omega]
      generalize hn0 : 2 + r = n
      have hn6 : n ≤ 6 := by omega
      have hn2 : 2 ≤ n := by omega
      have B20 := B19.trans B10
      clear P9 B19 B10 hn0
      refine ⟨_, rfl, _, _, rfl, rfl, 2, _, rfl, ⟨by decide, by decide, by omega, by omega⟩, ?_⟩
      refine for_range (lo := 2) (n := ((n : Int) + 1 - 2).toNat) (fun z σ H11 => ∃ v7, σ = [some (.ref a), some (.int (i : Int)), some (.ref p), some (.ref ca), some (.ref cb), some (.int (n : Int)), some (.int ((lcmL (List.range' 2 z) : Nat) : Int)), v7] ∧ H11 = H10) ⟨v7, rfl, rfl⟩ ?_ ?_
      · rintro z σ H11 hz ⟨v7, rfl, rfl⟩
        have hz5 : z ≤ 5 := by omega
        have f60 := fold_small z hz5
        have fp := lcmL_pos (l := List.range' 2 z) fun d hd => by
          have := List.mem_range'.mp hd
          omega
        rw [show (2 : Int) + (z : Int) = ((2 + z : Nat) : Int) by omega]
        have g0 : 0 < Nat.gcd (lcmL (List.range' 2 z)) (2 + z) := Nat.gcd_pos_of_pos_right _ (by omega)
        have g1 : Nat.gcd (lcmL (List.range' 2 z)) (2 + z) ≤ 2 + z := Nat.gcd_le_right _ (by omega)
        dsimp only [gName]
        refine ⟨_, rfl, _, rfl, _, rfl, _, _, rfl, _, _, rfl, rfl, wide_div (b := 64) (Int.ofNat_lt.mpr g0) (by rw [Int.natAbs_natCast]; exact Nat.lt_of_le_of_lt g1 (by omega)) (by decide) (by decide), _, rfl, _, _, rfl, rfl, .inr ⟨by omega, by omega⟩, ?_⟩
        refine ⟨some (.int ((2 + z : Nat) : Int)), ?_, rfl⟩
        rw [List.range'_concat, lcmL_snoc, Nat.one_mul]
        unfold stepL
        rw [Int.natCast_mul, Int.natCast_ediv]
        rfl
      · rintro σ H11 ⟨v7, rfl, rfl⟩
        rw [show ((n : Int) + 1 - 2).toNat = n - 1 by omega]
        refine ⟨.ref p, rfl, p, _, 1000, rfl, P10, by show 0 + 1 + 1 + ws.length + 1 + 2 + 1 ≤ 1000000; omega, by decide, by decide +kernel, fun y H12 y0 yl P12 B12 => ⟨_, _, rfl, rfl, by show 1 ≤ sizeLine; decide, fun te nte => ?_⟩⟩
        obtain ⟨y, rfl⟩ := Int.eq_ofNat_of_zero_le y0
        dsimp only
        rw [show (1 : Int) + (y : Int) = ((1 + y : Nat) : Int) by omega]
        generalize hc0 : 1 + y = c
        have hc1 : 1 ≤ c := by omega
        have hc2 : c ≤ 1000 := by omega
        refine ⟨_, rfl, .inr ⟨te, _, _, rfl, rfl, SqT.of upd_same, by simp, by omega, by omega, by show 1 ≤ 1000; decide, fun tr ntr => ?_⟩⟩
        rw [Int.toNat_natCast, rep_flat]
        have hwr : WtOk (List.replicate n c) := ⟨by rw [List.length_replicate]; omega, fun x hx => by rw [(List.mem_replicate.mp hx).2]; omega⟩
        refine ⟨tr, List.replicate n c, rfl, SqT.of upd_same, hwr, by rw [List.length_replicate]; omega, by rw [List.length_replicate]; omega, fun H13 s13 => ?_⟩
        rw [List.length_replicate, eq_least (c := c) (by omega) (fun x hx => wf_rep hx), least_fold n hn6 hn2]
        refine ⟨_, rfl, rfl, _, rfl, iteNS rfl ?_⟩
        exact ⟨_, _, _, _, _, _, _, rfl, (((B20.trans B12).same (same_new nte)).same ((same_new ntr).trans s13)).to fp⟩
    · rintro σ H2 ⟨v1, v2, v3, v4, v5, v6, v7, rfl, s2⟩
      exact q _
end
/-! ### lists of whole numbers are data of a shape -/
theorem shp_ints : ∀ ns : List Int, PyData.canLayAll0 (ns.map PyData.int) = true ∧ PyData.depthAll (ns.map PyData.int) ≤ 1
  | [] => ⟨rfl, Nat.zero_le _⟩
  | n :: r => by
    obtain ⟨h1, h2⟩ := shp_ints r
    refine ⟨?_, Nat.max_le.mpr ⟨Nat.zero_le _, h2⟩⟩
    show (true && PyData.canLayAll0 (r.map PyData.int)) = true
    rw [h1]
    rfl
theorem shp_listI (ns : List Int) : SeqAt.shaped (.list (ns.map PyData.int)) = true := by
  obtain ⟨h1, h2⟩ := shp_ints ns
  unfold SeqAt.shaped
  rw [show PyData.canLay0 (.list (ns.map PyData.int)) = PyData.canLayAll0 (ns.map PyData.int) from rfl, h1]
  refine decide_eq_true ?_
  show PyData.depthAll (ns.map PyData.int) + 1 ≤ 64
  omega
theorem all_mk {l : PySem.W.OpenLaw} {w : World} {K : PySem.W.Frag} {h : Heap} {mg : Str → Option Value} {fa f1 f2 f3 f4 f5 f6 f7 f8 f9 f10 f11 f12 f13 f14 f15 f16 f17 f18 f19 f20 : Addr} (X : K.In h) (G : h.Ns mainGlobals mg) (hfa : mg "law" = some (.ref fa))
    {od1 an1 od2 an2 od3 an3 od4 an4 od5 an5 od6 an6 od7 an7 od8 an8 od9 an9 od10 an10 od11 an11 od12 an12 od13 an13 od14 an14 od15 an15 od16 an16 od17 an17 od18 an18 od19 an19 od20 an20 : Option Addr} {sl1 sl2 sl3 sl4 sl5 sl6 sl7 sl8 sl9 sl10 sl11 sl12 sl13 sl14 sl15 sl16 sl17 sl18 sl19 sl20 : Array (Option Value)} {oc1 kV1 dc1 pm1 cd1 ct1 oc2 kV2 dc2 pm2 cd2 ct2 oc3 kV3 dc3 pm3 cd3 ct3 oc4 kV4 dc4 pm4 cd4 ct4 oc5 kV5 dc5 pm5 cd5 ct5 oc6 kV6 dc6 pm6 cd6 ct6 oc7 kV7 dc7 pm7 cd7 ct7 oc8 kV8 dc8 pm8 cd8 ct8 oc9 kV9 dc9 pm9 cd9 ct9 oc10 kV10 dc10 pm10 cd10 ct10 oc11 kV11 dc11 pm11 cd11 ct11 oc12 kV12 dc12 pm12 cd12 ct12 oc13 kV13 dc13 pm13 cd13 ct13 oc14 kV14 dc14 pm14 cd14 ct14 oc15 kV15 dc15 pm15 cd15 ct15 oc16 kV16 dc16 pm16 cd16 ct16 oc17 kV17 dc17 pm17 cd17 ct17 oc18 kV18 dc18 pm18 cd18 ct18 oc19 kV19 dc19 pm19 cd19 ct19 oc20 kV20 dc20 pm20 cd20 ct20 : Value}
    (a1 : PySem.W.nsIn K mainGlobals "greatest_divisor" = some (some (.ref f1)))
    (l1 : K.lookup f1 = some ⟨oc1, od1, .func (PySem.W.fnOf "greatest_divisor" "greatest_divisor" (defArgs sGcd) (defBody sGcd) (defScope sGcd) .none kV1 dc1 pm1 an1 cd1 ct1), sl1⟩)
    (c1 : PySem.W.codeIn K cd1 "greatest_divisor" = true)
    (k1 : PySem.W.keepIn K (.ref f1) = true)
    (a2 : PySem.W.nsIn K mainGlobals "least_multiple" = some (some (.ref f2)))
    (l2 : K.lookup f2 = some ⟨oc2, od2, .func (PySem.W.fnOf "least_multiple" "least_multiple" (defArgs sLcm) (defBody sLcm) (defScope sLcm) .none kV2 dc2 pm2 an2 cd2 ct2), sl2⟩)
    (c2 : PySem.W.codeIn K cd2 "least_multiple" = true)
    (k2 : PySem.W.keepIn K (.ref f2) = true)
    (a3 : PySem.W.nsIn K mainGlobals "outside" = some (some (.ref f3)))
    (l3 : K.lookup f3 = some ⟨oc3, od3, .func (PySem.W.fnOf "outside" "outside" (defArgs sOut) (defBody sOut) (defScope sOut) .none kV3 dc3 pm3 an3 cd3 ct3), sl3⟩)
    (c3 : PySem.W.codeIn K cd3 "outside" = true)
    (k3 : PySem.W.keepIn K (.ref f3) = true)
    (a4 : PySem.W.nsIn K mainGlobals "sets_among" = some (some (.ref f4)))
    (l4 : K.lookup f4 = some ⟨oc4, od4, .func (PySem.W.fnOf "sets_among" "sets_among" (defArgs sAmong) (defBody sAmong) (defScope sAmong) .none kV4 dc4 pm4 an4 cd4 ct4), sl4⟩)
    (c4 : PySem.W.codeIn K cd4 "sets_among" = true)
    (k4 : PySem.W.keepIn K (.ref f4) = true)
    (a5 : PySem.W.nsIn K mainGlobals "share" = some (some (.ref f5)))
    (l5 : K.lookup f5 = some ⟨oc5, od5, .func (PySem.W.fnOf "share" "share" (defArgs sShare) (defBody sShare) (defScope sShare) .none kV5 dc5 pm5 an5 cd5 ct5), sl5⟩)
    (c5 : PySem.W.codeIn K cd5 "share" = true)
    (k5 : PySem.W.keepIn K (.ref f5) = true)
    (a6 : PySem.W.nsIn K mainGlobals "first_share" = some (some (.ref f6)))
    (l6 : K.lookup f6 = some ⟨oc6, od6, .func (PySem.W.fnOf "first_share" "first_share" (defArgs sFShare) (defBody sFShare) (defScope sFShare) .none kV6 dc6 pm6 an6 cd6 ct6), sl6⟩)
    (c6 : PySem.W.codeIn K cd6 "first_share" = true)
    (k6 : PySem.W.keepIn K (.ref f6) = true)
    (a7 : PySem.W.nsIn K mainGlobals "level_share" = some (some (.ref f7)))
    (l7 : K.lookup f7 = some ⟨oc7, od7, .func (PySem.W.fnOf "level_share" "level_share" (defArgs sLShare) (defBody sLShare) (defScope sLShare) .none kV7 dc7 pm7 an7 cd7 ct7), sl7⟩)
    (c7 : PySem.W.codeIn K cd7 "level_share" = true)
    (k7 : PySem.W.keepIn K (.ref f7) = true)
    (a8 : PySem.W.nsIn K mainGlobals "level_shares" = some (some (.ref f8)))
    (l8 : K.lookup f8 = some ⟨oc8, od8, .func (PySem.W.fnOf "level_shares" "level_shares" (defArgs sLShs) (defBody sLShs) (defScope sLShs) .none kV8 dc8 pm8 an8 cd8 ct8), sl8⟩)
    (c8 : PySem.W.codeIn K cd8 "level_shares" = true)
    (k8 : PySem.W.keepIn K (.ref f8) = true)
    (a9 : PySem.W.nsIn K mainGlobals "least_count" = some (some (.ref f9)))
    (l9 : K.lookup f9 = some ⟨oc9, od9, .func (PySem.W.fnOf "least_count" "least_count" (defArgs sLCnt) (defBody sLCnt) (defScope sLCnt) .none kV9 dc9 pm9 an9 cd9 ct9), sl9⟩)
    (c9 : PySem.W.codeIn K cd9 "least_count" = true)
    (k9 : PySem.W.keepIn K (.ref f9) = true)
    (a10 : PySem.W.nsIn K mainGlobals "least_weighted" = some (some (.ref f10)))
    (l10 : K.lookup f10 = some ⟨oc10, od10, .func (PySem.W.fnOf "least_weighted" "least_weighted" (defArgs sLWt) (defBody sLWt) (defScope sLWt) .none kV10 dc10 pm10 an10 cd10 ct10), sl10⟩)
    (c10 : PySem.W.codeIn K cd10 "least_weighted" = true)
    (k10 : PySem.W.keepIn K (.ref f10) = true)
    (a11 : PySem.W.nsIn K mainGlobals "_law_draws" = some (some (.ref f11)))
    (l11 : K.lookup f11 = some ⟨oc11, od11, .func (PySem.W.fnOf "_law_draws" "_law_draws" (defArgs sDrws) (defBody sDrws) (defScope sDrws) .none kV11 dc11 pm11 an11 cd11 ct11), sl11⟩)
    (c11 : PySem.W.codeIn K cd11 "_law_draws" = true)
    (k11 : PySem.W.keepIn K (.ref f11) = true)
    (a12 : PySem.W.nsIn K mainGlobals "_law_below" = some (some (.ref f12)))
    (l12 : K.lookup f12 = some ⟨oc12, od12, .func (PySem.W.fnOf "_law_below" "_law_below" (defArgs sBelow) (defBody sBelow) (defScope sBelow) .none kV12 dc12 pm12 an12 cd12 ct12), sl12⟩)
    (c12 : PySem.W.codeIn K cd12 "_law_below" = true)
    (k12 : PySem.W.keepIn K (.ref f12) = true)
    (a13 : PySem.W.nsIn K mainGlobals "_law_pick" = some (some (.ref f13)))
    (l13 : K.lookup f13 = some ⟨oc13, od13, .func (PySem.W.fnOf "_law_pick" "_law_pick" (defArgs sPickD) (defBody sPickD) (defScope sPickD) .none kV13 dc13 pm13 an13 cd13 ct13), sl13⟩)
    (c13 : PySem.W.codeIn K cd13 "_law_pick" = true)
    (k13 : PySem.W.keepIn K (.ref f13) = true)
    (a14 : PySem.W.nsIn K mainGlobals "_law_common" = some (some (.ref f14)))
    (l14 : K.lookup f14 = some ⟨oc14, od14, .func (PySem.W.fnOf "_law_common" "_law_common" (defArgs sCommon) (defBody sCommon) (defScope sCommon) .none kV14 dc14 pm14 an14 cd14 ct14), sl14⟩)
    (c14 : PySem.W.codeIn K cd14 "_law_common" = true)
    (k14 : PySem.W.keepIn K (.ref f14) = true)
    (a15 : PySem.W.nsIn K mainGlobals "_law_cut" = some (some (.ref f15)))
    (l15 : K.lookup f15 = some ⟨oc15, od15, .func (PySem.W.fnOf "_law_cut" "_law_cut" (defArgs sCut) (defBody sCut) (defScope sCut) .none kV15 dc15 pm15 an15 cd15 ct15), sl15⟩)
    (c15 : PySem.W.codeIn K cd15 "_law_cut" = true)
    (k15 : PySem.W.keepIn K (.ref f15) = true)
    (a16 : PySem.W.nsIn K mainGlobals "_law_added" = some (some (.ref f16)))
    (l16 : K.lookup f16 = some ⟨oc16, od16, .func (PySem.W.fnOf "_law_added" "_law_added" (defArgs sAdded) (defBody sAdded) (defScope sAdded) .none kV16 dc16 pm16 an16 cd16 ct16), sl16⟩)
    (c16 : PySem.W.codeIn K cd16 "_law_added" = true)
    (k16 : PySem.W.keepIn K (.ref f16) = true)
    (a17 : PySem.W.nsIn K mainGlobals "_law_weights" = some (some (.ref f17)))
    (l17 : K.lookup f17 = some ⟨oc17, od17, .func (PySem.W.fnOf "_law_weights" "_law_weights" (defArgs sWts) (defBody sWts) (defScope sWts) .none kV17 dc17 pm17 an17 cd17 ct17), sl17⟩)
    (c17 : PySem.W.codeIn K cd17 "_law_weights" = true)
    (k17 : PySem.W.keepIn K (.ref f17) = true)
    (a18 : PySem.W.nsIn K mainGlobals "_law_shares" = some (some (.ref f18)))
    (l18 : K.lookup f18 = some ⟨oc18, od18, .func (PySem.W.fnOf "_law_shares" "_law_shares" (defArgs sShs) (defBody sShs) (defScope sShs) .none kV18 dc18 pm18 an18 cd18 ct18), sl18⟩)
    (c18 : PySem.W.codeIn K cd18 "_law_shares" = true)
    (k18 : PySem.W.keepIn K (.ref f18) = true)
    (a19 : PySem.W.nsIn K mainGlobals "_law_least" = some (some (.ref f19)))
    (l19 : K.lookup f19 = some ⟨oc19, od19, .func (PySem.W.fnOf "_law_least" "_law_least" (defArgs sLeast34) (defBody sLeast34) (defScope sLeast34) .none kV19 dc19 pm19 an19 cd19 ct19), sl19⟩)
    (c19 : PySem.W.codeIn K cd19 "_law_least" = true)
    (k19 : PySem.W.keepIn K (.ref f19) = true)
    (a20 : PySem.W.nsIn K mainGlobals "law" = some (some (.ref f20)))
    (l20 : K.lookup f20 = some ⟨oc20, od20, .func (PySem.W.fnOf "law" "law" (defArgs sLaw) (defBody sLaw) (defScope sLaw) .none kV20 dc20 pm20 an20 cd20 ct20), sl20⟩)
    (c20 : PySem.W.codeIn K cd20 "law" = true)
    (k20 : PySem.W.keepIn K (.ref f20) = true)
    (z1 : PySem.W.nsIn K mainGlobals "abs" = some none)
    (z2 : PySem.W.nsIn K mainGlobals "int" = some none)
    (z3 : PySem.W.nsIn K mainGlobals "len" = some none)
    (z4 : PySem.W.nsIn K mainGlobals "max" = some none)
    (z5 : PySem.W.nsIn K mainGlobals "min" = some none)
    (z6 : PySem.W.nsIn K mainGlobals "range" = some none)
    (z7 : PySem.W.nsIn K mainGlobals "repr" = some none)
    (z8 : PySem.W.nsIn K mainGlobals "set" = some none)
    (z9 : PySem.W.nsIn K mainGlobals "sorted" = some none)
    (z10 : PySem.W.nsIn K mainGlobals "sum" = some none)
    (z11 : PySem.W.nsIn K mainGlobals "tuple" = some none)
    : ∃ fd : FuncData, (∀ (s : Shared) (v : Value), BindsTo s fd ⟨[v], []⟩ [("_law_script", v)]) ∧ ∀ base : Heap, K.In base → base.Ns mainGlobals mg → FnG l.prog w K mg base CX0 9 fa fd ["_law_script"] (spLaw K) := by
  have e := hfa.symm.trans (PySem.W.mg_of X G a20)
  cases e
  have F1 := fun_mk (st := sGcd) l1 c1 k1
  have b1 := F1.binds (ps := ["a", "b"]) fun _ _ _ _ _ _ us hl => match us, hl with | [_, _], _ => rfl
  have F2 := fun_mk (st := sLcm) l2 c2 k2
  have b2 := F2.binds (ps := ["a", "b"]) fun _ _ _ _ _ _ us hl => match us, hl with | [_, _], _ => rfl
  have F3 := fun_mk (st := sOut) l3 c3 k3
  have b3 := F3.binds (ps := ["n", "members"]) fun _ _ _ _ _ _ us hl => match us, hl with | [_, _], _ => rfl
  have F4 := fun_mk (st := sAmong) l4 c4 k4
  have b4 := F4.binds (ps := ["servers", "size"]) fun _ _ _ _ _ _ us hl => match us, hl with | [_, _], _ => rfl
  have F5 := fun_mk (st := sShare) l5 c5 k5
  have b5 := F5.binds (ps := ["numerator", "denominator"]) fun _ _ _ _ _ _ us hl => match us, hl with | [_, _], _ => rfl
  have F6 := fun_mk (st := sFShare) l6 c6 k6
  have b6 := F6.binds (ps := ["weights", "live", "server"]) fun _ _ _ _ _ _ us hl => match us, hl with | [_, _, _], _ => rfl
  have F7 := fun_mk (st := sLShare) l7 c7 k7
  have b7 := F7.binds (ps := ["weights", "members", "server"]) fun _ _ _ _ _ _ us hl => match us, hl with | [_, _, _], _ => rfl
  have F8 := fun_mk (st := sLShs) l8 c8 k8
  have b8 := F8.binds (ps := ["weights"]) fun _ _ _ _ _ _ us hl => match us, hl with | [_], _ => rfl
  have F9 := fun_mk (st := sLCnt) l9 c9 k9
  have b9 := F9.binds (ps := ["shares"]) fun _ _ _ _ _ _ us hl => match us, hl with | [_], _ => rfl
  have F10 := fun_mk (st := sLWt) l10 c10 k10
  have b10 := F10.binds (ps := ["weights"]) fun _ _ _ _ _ _ us hl => match us, hl with | [_], _ => rfl
  have F11 := fun_mk (st := sDrws) l11 c11 k11
  have b11 := F11.binds (ps := ["_law_script", "_law_k"]) fun _ _ _ _ _ _ us hl => match us, hl with | [_, _], _ => rfl
  have F12 := fun_mk (st := sBelow) l12 c12 k12
  have b12 := F12.binds (ps := ["_law_draws_here", "_law_many"]) fun _ _ _ _ _ _ us hl => match us, hl with | [_, _], _ => rfl
  have F13 := fun_mk (st := sPickD) l13 c13 k13
  have b13 := F13.binds (ps := ["_law_draws_here", "_law_items"]) fun _ _ _ _ _ _ us hl => match us, hl with | [_, _], _ => rfl
  have F14 := fun_mk (st := sCommon) l14 c14 k14
  have b14 := F14.binds (ps := ["_law_one", "_law_other"]) fun _ _ _ _ _ _ us hl => match us, hl with | [_, _], _ => rfl
  have F15 := fun_mk (st := sCut) l15 c15 k15
  have b15 := F15.binds (ps := ["_law_top", "_law_bottom"]) fun _ _ _ _ _ _ us hl => match us, hl with | [_, _], _ => rfl
  have F16 := fun_mk (st := sAdded) l16 c16 k16
  have b16 := F16.binds (ps := ["_law_one", "_law_other"]) fun _ _ _ _ _ _ us hl => match us, hl with | [_, _], _ => rfl
  have F17 := fun_mk (st := sWts) l17 c17 k17
  have b17 := F17.binds (ps := ["_law_draws_here", "_law_least_here", "_law_most", "_law_top"]) fun _ _ _ _ _ _ us hl => match us, hl with | [_, _, _, _], _ => rfl
  have F18 := fun_mk (st := sShs) l18 c18 k18
  have b18 := F18.binds (ps := ["_law_weights_here"]) fun _ _ _ _ _ _ us hl => match us, hl with | [_], _ => rfl
  have F19 := fun_mk (st := sLeast34) l19 c19 k19
  have b19 := F19.binds (ps := ["_law_weights_here"]) fun _ _ _ _ _ _ us hl => match us, hl with | [_], _ => rfl
  have F20 := fun_mk (st := sLaw) l20 c20 k20
  have T : Txt K mg := ⟨f1, _, F1, b1, PySem.W.mg_of X G a1, f2, _, F2, b2, PySem.W.mg_of X G a2, f3, _, F3, b3, PySem.W.mg_of X G a3, f4, _, F4, b4, PySem.W.mg_of X G a4, f5, _, F5, b5, PySem.W.mg_of X G a5, f6, _, F6, b6, PySem.W.mg_of X G a6, f7, _, F7, b7, PySem.W.mg_of X G a7, f8, _, F8, b8, PySem.W.mg_of X G a8, f9, _, F9, b9, PySem.W.mg_of X G a9, f10, _, F10, b10, PySem.W.mg_of X G a10, f11, _, F11, b11, PySem.W.mg_of X G a11, f12, _, F12, b12, PySem.W.mg_of X G a12, f13, _, F13, b13, PySem.W.mg_of X G a13, f14, _, F14, b14, PySem.W.mg_of X G a14, f15, _, F15, b15, PySem.W.mg_of X G a15, f16, _, F16, b16, PySem.W.mg_of X G a16, f17, _, F17, b17, PySem.W.mg_of X G a17, f18, _, F18, b18, PySem.W.mg_of X G a18, f19, _, F19, b19, PySem.W.mg_of X G a19, PySem.W.mg_none_of X G z1, PySem.W.mg_none_of X G z2, PySem.W.mg_none_of X G z3, PySem.W.mg_none_of X G z4, PySem.W.mg_none_of X G z5, PySem.W.mg_none_of X G z6, PySem.W.mg_none_of X G z7, PySem.W.mg_none_of X G z8, PySem.W.mg_none_of X G z9, PySem.W.mg_none_of X G z10, PySem.W.mg_none_of X G z11⟩
  exact ⟨PySem.W.fnOf "law" "law" (defArgs sLaw) (defBody sLaw) (defScope sLaw) .none kV20 dc20 pm20 an20 cd20 ct20, fun s v => .of_eq rfl, fun base _ _ => ok_law F20 T⟩
end Ef
open PySem PySem.W PyProof.Rows
set_option maxRecDepth 100000 in
set_option maxHeartbeats 0 in
theorem PySem.Challenge.cw_evenfailover_k35_least_number_of_weighte_holds : PySem.Challenge.rw_evenfailover_k35_least_number_of_weighte.Holds := by
  w_on; o_law; k_head; (case hw => w_witness2)
  k_fill
  refine Ef.lawG (l := PySem.Challenge.rw_evenfailover_k35_least_number_of_weighte) (n := 63) (k := 9) (x := "_law_script") (sp := fun w => Ef.spLaw _) rfl (by decide) rfl ⟨rfl, by decide, by decide⟩ (fun w h Y => PySem.W.kIn_of Y) ?F (fun _ _ a ns hl _ hS => ⟨a, ns, rfl, hS, hl, fun _ => rfl⟩)
  case F =>
    intro w mg fa h KX G hmg
    refine' Ef.all_mk KX G hmg ?a1 ?l1 ?c1 ?k1 ?a2 ?l2 ?c2 ?k2 ?a3 ?l3 ?c3 ?k3 ?a4 ?l4 ?c4 ?k4 ?a5 ?l5 ?c5 ?k5 ?a6 ?l6 ?c6 ?k6 ?a7 ?l7 ?c7 ?k7 ?a8 ?l8 ?c8 ?k8 ?a9 ?l9 ?c9 ?k9 ?a10 ?l10 ?c10 ?k10 ?a11 ?l11 ?c11 ?k11 ?a12 ?l12 ?c12 ?k12 ?a13 ?l13 ?c13 ?k13 ?a14 ?l14 ?c14 ?k14 ?a15 ?l15 ?c15 ?k15 ?a16 ?l16 ?c16 ?k16 ?a17 ?l17 ?c17 ?k17 ?a18 ?l18 ?c18 ?k18 ?a19 ?l19 ?c19 ?k19 ?a20 ?l20 ?c20 ?k20 ?z1 ?z2 ?z3 ?z4 ?z5 ?z6 ?z7 ?z8 ?z9 ?z10 ?z11
    (case a1 => k_is)
    (case l1 => k_is)
    (case c1 => k_is)
    (case k1 => k_is)
    (case a2 => k_is)
    (case l2 => k_is)
    (case c2 => k_is)
    (case k2 => k_is)
    (case a3 => k_is)
    (case l3 => k_is)
    (case c3 => k_is)
    (case k3 => k_is)
    (case a4 => k_is)
    (case l4 => k_is)
    (case c4 => k_is)
    (case k4 => k_is)
    (case a5 => k_is)
    (case l5 => k_is)
    (case c5 => k_is)
    (case k5 => k_is)
    (case a6 => k_is)
    (case l6 => k_is)
    (case c6 => k_is)
    (case k6 => k_is)
    (case a7 => k_is)
    (case l7 => k_is)
    (case c7 => k_is)
    (case k7 => k_is)
    (case a8 => k_is)
    (case l8 => k_is)
    (case c8 => k_is)
    (case k8 => k_is)
    (case a9 => k_is)
    (case l9 => k_is)
    (case c9 => k_is)
    (case k9 => k_is)
    (case a10 => k_is)
    (case l10 => k_is)
    (case c10 => k_is)
    (case k10 => k_is)
    (case a11 => k_is)
    (case l11 => k_is)
    (case c11 => k_is)
    (case k11 => k_is)
    (case a12 => k_is)
    (case l12 => k_is)
    (case c12 => k_is)
    (case k12 => k_is)
    (case a13 => k_is)
    (case l13 => k_is)
    (case c13 => k_is)
    (case k13 => k_is)
    (case a14 => k_is)
    (case l14 => k_is)
    (case c14 => k_is)
    (case k14 => k_is)
    (case a15 => k_is)
    (case l15 => k_is)
    (case c15 => k_is)
    (case k15 => k_is)
    (case a16 => k_is)
    (case l16 => k_is)
    (case c16 => k_is)
    (case k16 => k_is)
    (case a17 => k_is)
    (case l17 => k_is)
    (case c17 => k_is)
    (case k17 => k_is)
    (case a18 => k_is)
    (case l18 => k_is)
    (case c18 => k_is)
    (case k18 => k_is)
    (case a19 => k_is)
    (case l19 => k_is)
    (case c19 => k_is)
    (case k19 => k_is)
    (case a20 => k_is)
    (case l20 => k_is)
    (case c20 => k_is)
    (case k20 => k_is)
    (case z1 => k_is)
    (case z2 => k_is)
    (case z3 => k_is)
    (case z4 => k_is)
    (case z5 => k_is)
    (case z6 => k_is)
    (case z7 => k_is)
    (case z8 => k_is)
    (case z9 => k_is)
    (case z10 => k_is)
    (case z11 => k_is)

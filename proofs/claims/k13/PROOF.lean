import PyProof.Rows.All
import Wide.All
import OpenK.AllK
import Wide.FinOn
import HandS.ForMost
import HandS.RaiseMore
import HandS.Strs
import HandS.SetFor
import HandS.Conv
import HandS.Wide
import HandS.IsInst
import HandS.Codes
import HandS.TupAny
import HandS.ForExc
import HandS.ExcInit
import HandS.ExcField
import HandS.ExcIs
import HandS.ExcOwn
import HandS.TupSets
import HandS.Walk
import HandS.RevRange
import HandS.Rev
import HandS.Style
import HandS.DictComp
import KE.GoesMore
import HandS.Strs
import HandS.TupAny
import KE.KTupSum
import HandS.Deep
import KE.SortData
import HandS.Comp
import PyProof.NeKinds
import PyProof.EqKinds
import HandS.SortKw
import KE.DataMinMax
import PySem.Challenge.RW_evenfailover_k13_tables_of_any_value
set_option Elab.async false
set_option linter.all false
set_option maxRecDepth 100000
set_option maxHeartbeats 4000000
namespace Ef
/-- Pascal's triangle -/
def C : Nat → Nat → Nat
  | _, 0 => 1
  | 0, _ + 1 => 0
  | n + 1, k + 1 => C n k + C n (k + 1)
theorem C_zero (n : Nat) : C n 0 = 1 := by cases n <;> rfl
theorem C_zs (k : Nat) : C 0 (k + 1) = 0 := rfl
theorem C_ss (n k : Nat) : C (n + 1) (k + 1) = C n k + C n (k + 1) := rfl
theorem C_big : ∀ (n k : Nat), n < k → C n k = 0
  | 0, k + 1, _ => rfl
  | n + 1, k + 1, h => by
    rw [C_ss, C_big n k (by omega), C_big n (k + 1) (by omega)]
theorem C_self : ∀ n : Nat, C n n = 1
  | 0 => rfl
  | n + 1 => by rw [C_ss, C_self n, C_big n (n + 1) (by omega)]
theorem C_absorb : ∀ (n k : Nat), C (n + 1) (k + 1) * (k + 1) = (n + 1) * C n k
  | 0, 0 => rfl
  | 0, k + 1 => by
    rw [C_ss, C_zs, C_zs]; simp
  | n + 1, 0 => by
    have h := C_absorb n 0
    rw [C_zero] at h
    rw [C_ss, C_zero]
    omega
  | n + 1, j + 1 => by
    have h1 := C_absorb n j
    have h2 := C_absorb n (j + 1)
    have e : C (n + 1) (j + 1) = C n j + C n (j + 1) := C_ss n j
    rw [C_ss (n + 1) (j + 1)]
    have a1 : (C (n + 1) (j + 1) + C (n + 1) (j + 1 + 1)) * (j + 1 + 1) = C (n + 1) (j + 1) * (j + 1) + C (n + 1) (j + 1) + C (n + 1) (j + 1 + 1) * (j + 1 + 1) := by
      rw [Nat.add_mul, Nat.mul_succ (C (n + 1) (j + 1)) (j + 1)]
    rw [a1, h1, h2]
    have a2 : (n + 1 + 1) * C (n + 1) (j + 1) = (n + 1) * C (n + 1) (j + 1) + C (n + 1) (j + 1) := Nat.succ_mul _ _
    rw [a2]
    have a3 : (n + 1) * C (n + 1) (j + 1) = (n + 1) * C n j + (n + 1) * C n (j + 1) := by rw [e, Nat.mul_add]
    rw [a3]
    omega
theorem C_step (n k : Nat) (h : k ≤ n) : C n (k + 1) * (k + 1) = C n k * (n - k) := by
  have h1 := C_absorb n k
  rw [C_ss, Nat.add_mul] at h1
  have h2 : (n + 1) * C n k = C n k * (k + 1) + C n k * (n - k) := by
    rw [← Nat.mul_add, Nat.mul_comm]
    congr 1
    omega
  omega
theorem C_symm : ∀ (n k : Nat), k ≤ n → C n k = C n (n - k)
  | n, 0, _ => by rw [C_zero, Nat.sub_zero, C_self]
  | n + 1, k + 1, h => by
    by_cases e : k = n
    · subst e
      rw [C_self, Nat.sub_self, C_zero]
    · have e1 : n + 1 - (k + 1) = (n - (k + 1)) + 1 := by omega
      rw [e1, C_ss, C_ss, ← C_symm n (k + 1) (by omega), show n - (k + 1) + 1 = n - k by omega, ← C_symm n k (by omega), Nat.add_comm]
theorem C_le : ∀ (n k : Nat), C n k ≤ 2 ^ n
  | n, 0 => by rw [C_zero]; exact Nat.one_le_two_pow
  | 0, k + 1 => by rw [C_zs]; exact Nat.zero_le _
  | n + 1, k + 1 => by
    have a := C_le n k
    have b := C_le n (k + 1)
    rw [C_ss, Nat.pow_succ]
    omega
theorem C_pos : ∀ (n k : Nat), k ≤ n → 0 < C n k
  | n, 0, _ => by rw [C_zero]; decide
  | n + 1, k + 1, h => by
    rw [C_ss]
    have := C_pos n k (by omega)
    omega
theorem C_min (n k : Nat) (h : k ≤ n) : C n (min k (n - k)) = C n k := by
  by_cases e : k ≤ n - k
  · rw [Nat.min_eq_left e]
  · rw [Nat.min_eq_right (by omega), ← C_symm n k h]
theorem C_60 (n k : Nat) (h : n ≤ 60) : C n k ≤ 1152921504606846976 := Nat.le_trans (C_le n k) (Nat.le_trans (Nat.pow_le_pow_right (by decide) h) (by decide))
/-- what the program's binomial answers -/
def binZ (n k : Int) : Int := if k < 0 ∨ n < k then 0 else (C n.toNat k.toNat : Int)
theorem binZ_nat (n k : Nat) : binZ n k = (C n k : Int) := by
  unfold binZ
  by_cases h : n < k
  · rw [if_pos (by omega), C_big n k h]; rfl
  · rw [if_neg (by omega)]; simp
/-- one step of its product -/
theorem C_div (n s : Nat) (h : s < n) : ((C n s : Int) * ((n : Int) + 1 - (1 + (s : Int)))) / (1 + (s : Int)) = (C n (s + 1) : Int) := by
  have e : (C n s : Int) * ((n : Int) + 1 - (1 + (s : Int))) = (C n (s + 1) : Int) * (1 + (s : Int)) := by
    have h1 := C_step n s (by omega)
    have h2 : ((n : Int) + 1 - (1 + (s : Int))) = ((n - s : Nat) : Int) := by omega
    have h3 : (1 + (s : Int)) = ((s + 1 : Nat) : Int) := by omega
    rw [h2, h3, ← Int.natCast_mul, ← Int.natCast_mul, h1]
  rw [e]
  exact Int.mul_ediv_cancel _ (by omega)
end Ef
namespace Ef
/-! ### the least numbers of lists -/
def stepL (a b : Nat) : Nat := a / Nat.gcd a b * b
def leastL (n : Nat) : Nat → Nat
  | 0 => 1
  | d + 1 => stepL (leastL n d) (n * C (n - 1) d)
theorem stepL_pos {a b : Nat} (ha : 0 < a) (hb : 0 < b) : 0 < stepL a b := by
  unfold stepL
  have h1 : Nat.gcd a b ≤ a := Nat.gcd_le_left b ha
  have h2 : 0 < Nat.gcd a b := Nat.gcd_pos_of_pos_left b ha
  exact Nat.mul_pos (Nat.div_pos h1 h2) hb
theorem edge_pos {n d : Nat} (h : d < n) : 0 < n * C (n - 1) d := Nat.mul_pos (by omega) (C_pos _ _ (by omega))
theorem leastL_pos {n : Nat} : ∀ {d : Nat}, d ≤ n → 0 < leastL n d
  | 0, _ => Nat.one_pos
  | d + 1, h => stepL_pos (leastL_pos (by omega)) (edge_pos (by omega))
theorem C_adj : ∀ (n k : Nat), C n k + C n (k + 1) ≤ 2 ^ n
  | 0, 0 => by decide
  | 0, k + 1 => by
    rw [C_zs, C_zs]
    decide
  | n + 1, 0 => by
    have h := C_adj n 0
    have h1 : 1 ≤ 2 ^ n := Nat.one_le_two_pow
    rw [C_zero] at h
    rw [C_ss, C_zero, C_zero, Nat.pow_succ]
    omega
  | n + 1, j + 1 => by
    have h := C_adj n j
    have h2 := C_adj n (j + 1)
    rw [C_ss, C_ss, Nat.pow_succ]
    omega
theorem C_half (n k : Nat) (h : 1 ≤ n) : C n k ≤ 2 ^ (n - 1) := by
  obtain ⟨m, rfl⟩ : ∃ m, n = m + 1 := ⟨n - 1, by omega⟩
  cases k with
  | zero =>
    rw [C_zero]
    exact Nat.one_le_two_pow
  | succ k => exact C_adj m k
theorem edge_lt {n d : Nat} (h : n ≤ 60) : n * C (n - 1) d < 18446744073709551616 := by
  by_cases h1 : n ≤ 1
  · have e : n - 1 = 0 := by omega
    have h2 : C (n - 1) d ≤ 2 ^ 0 := by rw [e]; exact C_le 0 d
    exact Nat.lt_of_le_of_lt (Nat.mul_le_mul h1 h2) (by decide)
  · have h2 : C (n - 1) d ≤ 2 ^ 58 := Nat.le_trans (C_half (n - 1) d (by omega)) (Nat.pow_le_pow_right (by decide) (by omega))
    exact Nat.lt_of_le_of_lt (Nat.mul_le_mul h h2) (by decide)
/-! rows of the triangle, reckoned one from the other -/
def nextRow : List Nat → List Nat := fun r => 1 :: List.zipWith (· + ·) r r.tail
def isRow (n : Nat) (r : List Nat) : Prop := ∀ k, k ≤ 60 → r[k]? = some (C n k)
theorem nextRow_is {n : Nat} {r : List Nat} (h : isRow n r) : ∀ k, k ≤ 60 → (nextRow r)[k]? = some (C (n + 1) k)
  | 0, _ => by
    rw [C_zero]
    rfl
  | k + 1, hk => by
    have h1 := h k (by omega)
    have h2 := h (k + 1) hk
    unfold nextRow
    rw [List.getElem?_cons_succ, List.getElem?_zipWith, h1, List.getElem?_tail, h2]
    rfl
def row0 : List Nat := 1 :: List.replicate 60 0
theorem row0_is : isRow 0 row0 := fun k hk => by
  cases k with
  | zero => rfl
  | succ k =>
    unfold row0
    rw [List.getElem?_cons_succ, List.getElem?_replicate, if_pos (by omega)]
    rfl
/-- P holds along the chain of least numbers: f of each -/
def chainOk (n : Nat) (f : Nat → Nat → Bool) : Nat → Nat → Nat → List Nat → Bool
  | 0, d, a, _ => f d a
  | m + 1, d, a, c :: r => f d a && chainOk n f m (d + 1) (stepL a (n * c)) r
  | _ + 1, _, _, [] => false
theorem chain_all {n : Nat} {f : Nat → Nat → Bool} {row : List Nat} (hr : isRow (n - 1) row) (hn : n ≤ 60) : ∀ (m d : Nat), d + m = n → chainOk n f m d (leastL n d) (row.drop d) = true → ∀ e, d ≤ e → e ≤ n → f e (leastL n e) = true
  | 0, d, h, ok, e, h1, h2 => by
    have e1 : e = d := by omega
    subst e1
    exact ok
  | m + 1, d, h, ok, e, h1, h2 => by
    have hd := hr d (by omega)
    have hlt : d < row.length := (List.getElem?_eq_some_iff.mp hd).1
    have hdr : row.drop d = C (n - 1) d :: row.drop (d + 1) := by
      rw [List.drop_eq_getElem_cons hlt]
      congr 1
      rw [List.getElem?_eq_getElem hlt] at hd
      exact Option.some.inj hd
    rw [hdr] at ok
    have ok2 : (f d (leastL n d) && chainOk n f m (d + 1) (leastL n (d + 1)) (row.drop (d + 1))) = true := ok
    rw [Bool.and_eq_true] at ok2
    by_cases c : e = d
    · rw [c]
      exact ok2.1
    · exact chain_all hr hn m (d + 1) (by omega) ok2.2 e (by omega) h2
def rowsOk (f : Nat → Nat → Nat → Bool) : Nat → Nat → List Nat → Bool
  | 0, _, _ => true
  | m + 1, n, row => chainOk n (f n) n 0 1 row && rowsOk f m (n + 1) (nextRow row)
theorem rows_all {f : Nat → Nat → Nat → Bool} : ∀ (m n : Nat) (row : List Nat), isRow (n - 1) row → 1 ≤ n → rowsOk f m n row = true → ∀ k, n ≤ k → k < n + m → k ≤ 60 → ∀ d, d ≤ k → f k d (leastL k d) = true
  | 0, _, _, _, _, _, k, h1, h2, _, _, _ => by omega
  | m + 1, n, row, hr, h0, ok, k, h1, h2, h6, d, hd => by
    have ok2 : (chainOk n (f n) n 0 1 row && rowsOk f m (n + 1) (nextRow row)) = true := ok
    rw [Bool.and_eq_true] at ok2
    by_cases c : k = n
    · subst c
      exact chain_all hr h6 k 0 (by omega) ok2.1 d (by omega) hd
    · have hr2 : isRow (n + 1 - 1) (nextRow row) := fun j hj => by
        have e : n + 1 - 1 = (n - 1) + 1 := by omega
        rw [e]
        exact nextRow_is hr j hj
      exact rows_all m (n + 1) (nextRow row) hr2 (by omega) ok2.2 k (by omega) (by omega) h6 d hd
theorem small_ok : rowsOk (fun _ _ a => Nat.blt a (2 ^ 100)) 60 1 row0 = true := by decide +kernel
theorem leastL_lt {n d : Nat} (h1 : 1 ≤ n) (h6 : n ≤ 60) (hd : d ≤ n) : leastL n d < 2 ^ 100 := by
  have h := rows_all 60 1 row0 row0_is (by decide) small_ok n h1 (by omega) h6 d hd
  have h2 : Nat.blt (leastL n d) (2 ^ 100) = true := h
  rw [Nat.blt_eq] at h2
  exact h2
end Ef
namespace Ef
/-! ### the standard table -/
theorem stepL_left (a b : Nat) (ha : 0 < a) : a ∣ stepL a b := by
  unfold stepL
  have h1 : Nat.gcd a b ∣ a := Nat.gcd_dvd_left a b
  have h2 : Nat.gcd a b ∣ b := Nat.gcd_dvd_right a b
  refine ⟨b / Nat.gcd a b, ?_⟩
  obtain ⟨x, hx⟩ := h1
  obtain ⟨y, hy⟩ := h2
  have g0 : 0 < Nat.gcd a b := Nat.gcd_pos_of_pos_left b ha
  generalize Nat.gcd a b = g at hx hy g0
  subst hx hy
  rw [Nat.mul_div_cancel_left _ g0, Nat.mul_div_cancel_left _ g0, Nat.mul_comm g x, Nat.mul_assoc]
theorem stepL_right (a b : Nat) : b ∣ stepL a b := ⟨a / Nat.gcd a b, Nat.mul_comm _ _⟩
theorem leastL_dvd {n : Nat} : ∀ {d : Nat}, d ≤ n → ∀ b, b < d → n * C (n - 1) b ∣ leastL n d
  | 0, _, b, h => by omega
  | d + 1, hd, b, h => by
    by_cases e : b = d
    · subst e
      exact stepL_right _ _
    · exact Nat.dvd_trans (leastL_dvd (by omega) b (by omega)) (stepL_left _ _ (leastL_pos (by omega)))
/-- width of a block at a level -/
def wd (n c s : Nat) : Nat := c / (n * C (n - 1) s)
theorem wd_eq {n c s : Nat} (h : n * C (n - 1) s ∣ c) : wd n c s * (n * C (n - 1) s) = c := Nat.div_mul_cancel h
theorem wd_pos {n c s : Nat} (h : n * C (n - 1) s ∣ c) (hc : 0 < c) : 0 < wd n c s := by
  have e := wd_eq h
  cases z : wd n c s with
  | zero =>
    rw [z, Nat.zero_mul] at e
    omega
  | succ k => omega
theorem wd_step {n c b : Nat} (h1 : n * C (n - 1) b ∣ c) (h2 : n * C (n - 1) (b + 1) ∣ c) (hb : b + 1 < n) : wd n c b * (b + 1) = wd n c (b + 1) * (n - (b + 1)) := by
  have e1 := wd_eq h1
  have e2 := wd_eq h2
  have s := C_step (n - 1) b (by omega)
  have p : 0 < n * C (n - 1) b := edge_pos (by omega)
  have x1 : wd n c b * (b + 1) * (n * C (n - 1) b) = c * (b + 1) := by
    rw [Nat.mul_right_comm, e1]
  have x2 : wd n c (b + 1) * (n - (b + 1)) * (n * C (n - 1) b) = c * (b + 1) := by
    have y : wd n c (b + 1) * (n * C (n - 1) (b + 1)) * (b + 1) = c * (b + 1) := by rw [e2]
    rw [← y, Nat.mul_assoc, Nat.mul_assoc (wd n c (b + 1)), Nat.mul_assoc n, s, show n - 1 - b = n - (b + 1) by omega]
    congr 1
    rw [Nat.mul_comm (n - (b + 1)), Nat.mul_assoc]
  exact Nat.eq_of_mul_eq_mul_right p (x1.trans x2.symm)
theorem wd_zero {n c : Nat} (h : n * C (n - 1) 0 ∣ c) : wd n c 0 * n = c := by
  have e := wd_eq h
  rw [C_zero, Nat.mul_one] at e
  exact e
theorem wd_le (n c s : Nat) : wd n c s ≤ c := Nat.div_le_self _ _
/-- what 'follow' takes and what it leaves -/
def fol (n c : Nat) : List Nat → List Nat → Nat → List Nat × Nat
  | [], _, r => ([], r)
  | s :: ss, L, r => (L.getD (r / wd n c s) 0 :: (fol n c ss (L.eraseIdx (r / wd n c s)) (wd n c s * (L.getD (r / wd n c s) 0 - r / wd n c s) + r % wd n c s)).1,
      (fol n c ss (L.eraseIdx (r / wd n c s)) (wd n c s * (L.getD (r / wd n c s) 0 - r / wd n c s) + r % wd n c s)).2)
def FolOk (n c : Nat) : List Nat → List Nat → Nat → Prop
  | [], _, _ => True
  | s :: ss, L, r => 0 < wd n c s ∧ r / wd n c s < L.length ∧ r / wd n c s ≤ L.getD (r / wd n c s) 0 ∧
      FolOk n c ss (L.eraseIdx (r / wd n c s)) (wd n c s * (L.getD (r / wd n c s) 0 - r / wd n c s) + r % wd n c s)
theorem fol_cons (n c s : Nat) (ss L : List Nat) (r : Nat) : fol n c (s :: ss) L r = (L.getD (r / wd n c s) 0 :: (fol n c ss (L.eraseIdx (r / wd n c s)) (wd n c s * (L.getD (r / wd n c s) 0 - r / wd n c s) + r % wd n c s)).1, (fol n c ss (L.eraseIdx (r / wd n c s)) (wd n c s * (L.getD (r / wd n c s) 0 - r / wd n c s) + r % wd n c s)).2) := rfl
theorem fol_len (n c : Nat) : ∀ ss L r, (fol n c ss L r).1.length = ss.length
  | [], _, _ => rfl
  | s :: ss, L, r => congrArg (· + 1) (fol_len n c ss _ _)
/-- ascending -/
abbrev Asc (L : List Nat) : Prop := L.Pairwise (· < ·)
theorem getD_of {L : List Nat} {i : Nat} (h : i < L.length) : L[i]? = some (L.getD i 0) := by
  rw [List.getD_eq_getElem?_getD, List.getElem?_eq_getElem h]
  rfl
/-- an ascending list counted from lo -/
theorem asc_from : ∀ {L : List Nat} {lo : Nat}, Asc L → (∀ x ∈ L, lo ≤ x) → ∀ {i x : Nat}, L[i]? = some x → lo + i ≤ x
  | [], _, _, _, _, _, h => by cases h
  | y :: L, lo, a, hl, 0, x, h => by
    obtain rfl : y = x := Option.some.inj h
    exact hl y List.mem_cons_self
  | y :: L, lo, a, hl, i + 1, x, h => by
    have h1 : L[i]? = some x := h
    have hy := hl y List.mem_cons_self
    have h2 := asc_from (L := L) (lo := lo + 1) (List.pairwise_cons.mp a).2 (fun z hz => by
      have := (List.pairwise_cons.mp a).1 z hz
      omega) h1
    omega
theorem asc_ge {L : List Nat} (a : Asc L) {i x : Nat} (h : L[i]? = some x) : i ≤ x := by
  have := asc_from a (lo := 0) (fun _ _ => Nat.zero_le _) h
  omega
theorem asc_le : ∀ {L : List Nat} {n : Nat}, Asc L → (∀ x ∈ L, x < n) → ∀ {i x : Nat}, L[i]? = some x → x + (L.length - i) ≤ n
  | [], _, _, _, _, _, h => by cases h
  | [y], n, _, hl, 0, x, h => by
    obtain rfl : y = x := Option.some.inj h
    have := hl y List.mem_cons_self
    show y + 1 ≤ n
    omega
  | y :: z :: L, n, a, hl, 0, x, h => by
    obtain rfl : y = x := Option.some.inj h
    have h1 := asc_le (L := z :: L) (List.pairwise_cons.mp a).2 (fun u hu => hl u (List.mem_cons_of_mem _ hu)) (i := 0) (x := z) rfl
    have h2 := (List.pairwise_cons.mp a).1 z List.mem_cons_self
    have e : (y :: z :: L).length = (z :: L).length + 1 := rfl
    omega
  | y :: L, n, a, hl, i + 1, x, h => by
    have h1 := asc_le (L := L) (List.pairwise_cons.mp a).2 (fun u hu => hl u (List.mem_cons_of_mem _ hu)) (i := i) (x := x) h
    have e : (y :: L).length = L.length + 1 := rfl
    omega
theorem asc_erase {L : List Nat} (a : Asc L) (i : Nat) : Asc (L.eraseIdx i) := a.sublist (List.eraseIdx_sublist L i)
/-- the way forward keeps within its bounds -/
theorem folOk_path {n c d : Nat} (hd : ∀ b, b < d → n * C (n - 1) b ∣ c) (hc : 0 < c) (hdn : d ≤ n) : ∀ (m b : Nat) (L : List Nat) (r : Nat), b + m = d → Asc L → (∀ x ∈ L, x < n) → L.length = n - b → (b < d → r < wd n c b * (n - b)) → FolOk n c (List.range' b m) L r
  | 0, _, _, _, _, _, _, _, _ => trivial
  | m + 1, b, L, r, e, a, hl, hlen, hr => by
    have hb := hd b (by omega)
    have w0 := wd_pos hb hc
    have hr2 := hr (by omega)
    have hi : r / wd n c b < L.length := by
      rw [hlen]
      exact Nat.div_lt_of_lt_mul hr2
    have hx := getD_of hi
    have g1 := asc_ge a hx
    have g2 := asc_le a hl hx
    refine ⟨w0, hi, g1, ?_⟩
    refine folOk_path hd hc hdn m (b + 1) _ _ (by omega) (asc_erase a _) (fun x hx => hl x (List.mem_of_mem_eraseIdx hx)) ?_ (fun hlt => ?_)
    · rw [List.length_eraseIdx, if_pos hi]
      omega
    · rw [← wd_step hb (hd (b + 1) hlt) (by omega)]
      have h1 : r % wd n c b < wd n c b := Nat.mod_lt _ w0
      have h2 : L.getD (r / wd n c b) 0 - r / wd n c b ≤ b := by omega
      have h3 : wd n c b * (L.getD (r / wd n c b) 0 - r / wd n c b) ≤ wd n c b * b := Nat.mul_le_mul_left _ h2
      rw [Nat.mul_add, Nat.mul_one]
      omega
/-- count of lists and depth that go together -/
structure Std (n d c : Nat) : Prop where
  n60 : n ≤ 60
  n1 : 1 ≤ n
  dn : d ≤ n
  c0 : 0 < c
  dv : leastL n d ∣ c
theorem Std.dvd {n d c : Nat} (h : Std n d c) (b : Nat) (hb : b < d) : n * C (n - 1) b ∣ c := Nat.dvd_trans (leastL_dvd h.dn b hb) h.dv
def path (n d c k : Nat) : List Nat × Nat := fol n c (List.range' 0 d) (List.range' 0 n) k
theorem asc_range' : ∀ (m b : Nat), Asc (List.range' b m) := fun m b => List.pairwise_lt_range'
theorem mem_range0 {n x : Nat} : x ∈ List.range' 0 n ↔ x < n := by
  rw [List.mem_range']
  exact ⟨fun ⟨i, h1, h2⟩ => by omega, fun h => ⟨x, h, by omega⟩⟩
theorem path_ok {n d c k : Nat} (h : Std n d c) (hk : k < c) : FolOk n c (List.range' 0 d) (List.range' 0 n) k :=
  folOk_path h.dvd h.c0 h.dn d 0 _ _ (by omega) (asc_range' n 0) (fun x hx => mem_range0.mp hx) (by rw [List.length_range']; omega) fun hd => by
    rw [Nat.sub_zero, wd_zero (h.dvd 0 hd)]
    exact hk
theorem fol_mem {n c : Nat} : ∀ {ss L : List Nat} {r : Nat}, FolOk n c ss L r → ∀ x ∈ (fol n c ss L r).1, x ∈ L
  | [], _, _, _, x, hx => by cases hx
  | s :: ss, L, r, ok, x, hx => by
    rw [fol_cons] at hx
    obtain ⟨_, h2, _, ok2⟩ := ok
    rcases List.mem_cons.mp hx with rfl | hx
    · exact List.mem_of_getElem? (getD_of h2)
    · exact List.mem_of_mem_eraseIdx (fol_mem ok2 x hx)
theorem nodup_inj {L : List Nat} (hn : L.Nodup) {i j x : Nat} (h1 : L[i]? = some x) (h2 : L[j]? = some x) : i = j := by
  obtain ⟨a1, a2⟩ := List.getElem?_eq_some_iff.mp h1
  obtain ⟨b1, b2⟩ := List.getElem?_eq_some_iff.mp h2
  rcases Nat.lt_trichotomy i j with c | c | c
  · exact absurd (a2.trans b2.symm) (List.pairwise_iff_getElem.mp hn i j a1 b1 c)
  · exact c
  · exact absurd (b2.trans a2.symm) (List.pairwise_iff_getElem.mp hn j i b1 a1 c)
theorem not_mem_erase {L : List Nat} {i x : Nat} (hn : L.Nodup) (h : L[i]? = some x) : x ∉ L.eraseIdx i := by
  intro hm
  obtain ⟨k, hk⟩ := List.getElem?_of_mem hm
  rw [List.getElem?_eraseIdx] at hk
  split at hk
  · have := nodup_inj hn hk h
    omega
  · have := nodup_inj hn hk h
    omega
theorem fol_nodup {n c : Nat} : ∀ {ss L : List Nat} {r : Nat}, FolOk n c ss L r → L.Nodup → (fol n c ss L r).1.Nodup
  | [], _, _, _, _ => List.nodup_nil
  | s :: ss, L, r, ok, hn => by
    rw [fol_cons]
    obtain ⟨_, h2, _, ok2⟩ := ok
    refine List.nodup_cons.mpr ⟨fun hx => not_mem_erase hn (getD_of h2) (fol_mem ok2 _ hx), fol_nodup ok2 (hn.sublist (List.eraseIdx_sublist _ _))⟩
theorem asc_nodup {L : List Nat} (h : Asc L) : L.Nodup := h.imp fun z => Nat.ne_of_lt z
theorem path_nodup {n d c k : Nat} (h : Std n d c) (hk : k < c) : (path n d c k).1.Nodup := fol_nodup (path_ok h hk) (asc_nodup (asc_range' n 0))
theorem path_lt {n d c k : Nat} (h : Std n d c) (hk : k < c) : ∀ x ∈ (path n d c k).1, x < n := fun x hx => mem_range0.mp (fol_mem (path_ok h hk) x hx)
theorem path_len (n d c k : Nat) : (path n d c k).1.length = d := by
  unfold path
  rw [fol_len, List.length_range']
theorem fol_rest {n c d : Nat} (hd : ∀ b, b < d → n * C (n - 1) b ∣ c) (hc : 0 < c) (hdn : d ≤ n) : ∀ (m b : Nat) (L : List Nat) (r : Nat), b + m = d → Asc L → (∀ x ∈ L, x < n) → L.length = n - b → (b < d → r < wd n c b * (n - b)) → r < c → (fol n c (List.range' b m) L r).2 < c
  | 0, _, _, _, _, _, _, _, _, h => h
  | m + 1, b, L, r, e, a, hl, hlen, hr, h => by
    have hb := hd b (by omega)
    have w0 := wd_pos hb hc
    have hr2 := hr (by omega)
    have hi : r / wd n c b < L.length := by
      rw [hlen]
      exact Nat.div_lt_of_lt_mul hr2
    have hx := getD_of hi
    have g1 := asc_ge a hx
    have g2 := asc_le a hl hx
    have h1 : r % wd n c b < wd n c b := Nat.mod_lt _ w0
    have h2 : L.getD (r / wd n c b) 0 - r / wd n c b ≤ b := by omega
    have h3 : wd n c b * (L.getD (r / wd n c b) 0 - r / wd n c b) ≤ wd n c b * b := Nat.mul_le_mul_left _ h2
    have h4 : wd n c b * (L.getD (r / wd n c b) 0 - r / wd n c b) + r % wd n c b < wd n c b * (b + 1) := by
      rw [Nat.mul_add, Nat.mul_one]
      omega
    have h5 : wd n c b * (b + 1) ≤ c := by
      have p : 0 < C (n - 1) b := C_pos _ _ (by omega)
      have p2 : b + 1 ≤ n * C (n - 1) b := Nat.le_trans (show b + 1 ≤ n * 1 by omega) (Nat.mul_le_mul_left n p)
      have := Nat.mul_le_mul_left (wd n c b) p2
      rw [wd_eq hb] at this
      exact this
    rw [List.range'_succ, fol_cons]
    refine fol_rest hd hc hdn m (b + 1) _ _ (by omega) (asc_erase a _) (fun x hx => hl x (List.mem_of_mem_eraseIdx hx)) ?_ (fun hlt => ?_) (by omega)
    · rw [List.length_eraseIdx, if_pos hi]
      omega
    · rw [← wd_step hb (hd (b + 1) hlt) (by omega)]
      exact h4
theorem path_rest {n d c k : Nat} (h : Std n d c) (hk : k < c) : (path n d c k).2 < c :=
  fol_rest h.dvd h.c0 h.dn d 0 _ _ (by omega) (asc_range' n 0) (fun x hx => mem_range0.mp hx) (by rw [List.length_range']; omega) (fun hd => by
    rw [Nat.sub_zero, wd_zero (h.dvd 0 hd)]
    exact hk) hk
theorem asc_unique {L M : List Nat} (a : Asc L) (b : Asc M) (p : L.Perm M) : L = M :=
  List.Perm.eq_of_pairwise (le := (· ≤ ·)) (fun a b _ _ h1 h2 => Nat.le_antisymm h1 h2) (a.imp fun z => Nat.le_of_lt z) (b.imp fun z => Nat.le_of_lt z) p
theorem std_of {n d : Nat} (h6 : n ≤ 60) (h1 : 1 ≤ n) (hd : d ≤ n) (q : Nat) (hq : 0 < q) : Std n d (leastL n d * q) := ⟨h6, h1, hd, Nat.mul_pos (leastL_pos hd) hq, ⟨q, rfl⟩⟩
/-! what stands outside a set, and the places in it -/
theorem below_at : ∀ {M : List Nat}, Asc M → ∀ {j s : Nat}, M[j]? = some s → (M.filter fun x => decide (x < s)).length = j
  | [], _, _, _, h => by cases h
  | y :: M, a, 0, s, h => by
    obtain rfl : y = s := Option.some.inj h
    rw [List.filter_cons_of_neg (by simp), List.filter_eq_nil_iff.mpr]
    · rfl
    · intro x hx
      have := (List.pairwise_cons.mp a).1 x hx
      simp
      omega
  | y :: M, a, j + 1, s, h => by
    have h1 : M[j]? = some s := h
    have h2 := (List.pairwise_cons.mp a).1 s (List.mem_of_getElem? h1)
    rw [List.filter_cons_of_pos (by simpa using h2)]
    exact congrArg (· + 1) (below_at (List.pairwise_cons.mp a).2 h1)
/-- L: the servers outside I, ascending -/
structure Compl (n : Nat) (I L : List Nat) : Prop where
  aI : Asc I
  aL : Asc L
  bI : ∀ x ∈ I, x < n
  mem : ∀ x, x ∈ L ↔ x < n ∧ x ∉ I
theorem Compl.count {n : Nat} {I L : List Nat} (h : Compl n I L) {i s : Nat} (e : L[i]? = some s) : (I.filter fun x => decide (x < s)).length + i = s := by
  have hs := (h.mem s).mp (List.mem_of_getElem? e)
  have p : ((I.filter fun x => decide (x < s)) ++ (L.filter fun x => decide (x < s))).Perm (List.range' 0 s) := by
    refine (List.perm_ext_iff_of_nodup ?_ (asc_nodup (asc_range' s 0))).mpr fun x => ?_
    · refine List.nodup_append.mpr ⟨(asc_nodup h.aI).filter _, (asc_nodup h.aL).filter _, fun x hx y hy e2 => ?_⟩
      subst e2
      exact ((h.mem x).mp (List.mem_filter.mp hy).1).2 (List.mem_filter.mp hx).1
    · rw [List.mem_append, List.mem_filter, List.mem_filter, mem_range0, h.mem]
      simp only [decide_eq_true_eq]
      constructor
      · rintro (⟨_, h⟩ | ⟨_, h⟩) <;> exact h
      · intro hx
        by_cases c : x ∈ I
        · exact .inl ⟨c, hx⟩
        · exact .inr ⟨⟨by omega, c⟩, hx⟩
  have l := p.length_eq
  rw [List.length_append, below_at h.aL e, List.length_range'] at l
  exact l
theorem Compl.start (n : Nat) : Compl n [] (List.range' 0 n) := ⟨List.Pairwise.nil, asc_range' n 0, fun x hx => absurd hx List.not_mem_nil, fun x => by rw [mem_range0]; simp⟩
theorem Compl.next {n : Nat} {I L I' : List Nat} (h : Compl n I L) {i s : Nat} (e : L[i]? = some s) (hp : I'.Perm (I ++ [s])) (ha : Asc I') : Compl n I' (L.eraseIdx i) := by
  have hs := (h.mem s).mp (List.mem_of_getElem? e)
  refine ⟨ha, asc_erase h.aL i, fun x hx => ?_, fun x => ?_⟩
  · rcases List.mem_append.mp (hp.mem_iff.mp hx) with hx | hx
    · exact h.bI x hx
    · rw [List.mem_singleton.mp hx]
      exact hs.1
  · constructor
    · intro hx
      have h1 := (h.mem x).mp (List.mem_of_mem_eraseIdx hx)
      refine ⟨h1.1, fun hx2 => ?_⟩
      rcases List.mem_append.mp (hp.mem_iff.mp hx2) with z | z
      · exact h1.2 z
      · rw [List.mem_singleton.mp z] at hx
        exact not_mem_erase (asc_nodup h.aL) e hx
    · rintro ⟨h1, h2⟩
      have h3 : x ∉ I := fun z => h2 (hp.mem_iff.mpr (List.mem_append_left _ z))
      have h4 : x ≠ s := fun z => h2 (hp.mem_iff.mpr (List.mem_append_right _ (by rw [z]; exact List.mem_singleton_self s)))
      obtain ⟨k, hk⟩ := List.getElem?_of_mem ((h.mem x).mpr ⟨h1, h3⟩)
      have hki : k ≠ i := fun z => by
        rw [z, e] at hk
        exact h4 (Option.some.inj hk).symm
      rcases Nat.lt_or_gt_of_ne hki with hlt | hgt
      · exact List.mem_of_getElem? (i := k) (by rw [List.getElem?_eraseIdx, if_pos hlt]; exact hk)
      · exact List.mem_of_getElem? (i := k - 1) (by rw [List.getElem?_eraseIdx, if_neg (by omega), show k - 1 + 1 = k by omega]; exact hk)
/-- the place of the new one -/
theorem Compl.index {n : Nat} {I L I' : List Nat} (h : Compl n I L) {i j s : Nat} (e : L[i]? = some s) (hp : I'.Perm (I ++ [s])) (ha : Asc I') (hj : I'[j]? = some s) : j + i = s := by
  have h1 := h.count e
  have h2 := below_at ha hj
  have h3 := (hp.filter fun x => decide (x < s)).length_eq
  rw [List.filter_append, List.length_append] at h3
  have h4 : (List.filter (fun x => decide (x < s)) [s]).length = 0 := by
    rw [List.filter_cons_of_neg (by simp)]
    rfl
  omega
theorem Compl.free {n : Nat} {I L : List Nat} (h : Compl n I L) : (List.range' 0 n).filter (fun x => !decide (x ∈ I)) = L := by
  have a1 : Asc ((List.range' 0 n).filter (fun x => !decide (x ∈ I))) := (asc_range' n 0).filter _
  refine List.Perm.eq_of_pairwise (le := (· ≤ ·)) (fun a b _ _ h1 h2 => Nat.le_antisymm h1 h2) (a1.imp fun z => Nat.le_of_lt z) (h.aL.imp fun z => Nat.le_of_lt z) ?_
  refine (List.perm_ext_iff_of_nodup (asc_nodup a1) (asc_nodup h.aL)).mpr fun x => ?_
  rw [List.mem_filter, mem_range0, h.mem]
  simp
end Ef
namespace Ef
/-! ### the sets of a size among ascending servers -/
def combs : List Nat → Nat → List (List Nat)
  | _, 0 => [[]]
  | [], _ + 1 => []
  | x :: r, k + 1 => (combs r k).map (x :: ·) ++ combs r (k + 1)
theorem combs_zero (l : List Nat) : combs l 0 = [[]] := by cases l <;> rfl
theorem combs_short : ∀ (l : List Nat) (k : Nat), l.length < k → combs l k = []
  | _, 0, h => absurd h (Nat.not_lt_zero _)
  | [], k + 1, _ => rfl
  | x :: r, k + 1, h => by
    have h2 : r.length < k := by
      simp only [List.length_cons] at h
      omega
    show (combs r k).map _ ++ combs r (k + 1) = []
    rw [combs_short r k h2, combs_short r (k + 1) (by omega)]
    rfl
theorem combs_good : ∀ (l : List Nat) (k : Nat), ∀ c ∈ combs l k, c.length = k ∧ c.Sublist l
  | l, 0, c, h => by
    rw [combs_zero] at h
    rw [List.mem_singleton.mp h]
    exact ⟨rfl, List.nil_sublist _⟩
  | [], k + 1, c, h => by cases h
  | x :: r, k + 1, c, h => by
    rcases List.mem_append.mp h with h | h
    · obtain ⟨d, hd, rfl⟩ := List.mem_map.mp h
      obtain ⟨h1, h2⟩ := combs_good r k d hd
      exact ⟨by rw [List.length_cons, h1], h2.cons_cons x⟩
    · obtain ⟨h1, h2⟩ := combs_good r (k + 1) c h
      exact ⟨h1, h2.cons x⟩
theorem combs_ne : ∀ (l : List Nat) (k : Nat), k ≤ l.length → combs l k ≠ []
  | l, 0, _ => by rw [combs_zero]; simp
  | [], k + 1, h => by simp at h
  | x :: r, k + 1, h => by
    have h2 : k ≤ r.length := by
      simp only [List.length_cons] at h
      omega
    show (combs r k).map _ ++ combs r (k + 1) ≠ []
    intro e
    have := (List.append_eq_nil_iff.mp e).1
    exact combs_ne r k h2 (List.map_eq_nil_iff.mp this)
theorem combs_mem : ∀ (l c : List Nat), c.Sublist l → c ∈ combs l c.length
  | l, [], _ => by
    show [] ∈ combs l 0
    rw [combs_zero]
    exact List.mem_singleton.mpr rfl
  | [], _ :: _, h => by cases h
  | x :: r, y :: c, h => by
    show y :: c ∈ (combs r c.length).map (x :: ·) ++ combs r (c.length + 1)
    cases h with
    | cons _ h => exact List.mem_append_right _ (combs_mem r (y :: c) h)
    | cons_cons _ h => exact List.mem_append_left _ (List.mem_map.mpr ⟨c, combs_mem r c h, rfl⟩)
/-- by the place of the first one -/
theorem combs_from (l : List Nat) (m : Nat) : ∀ (d s : Nat), l.length + 1 ≤ s + d + (m + 1) → s + d + (m + 1) ≤ l.length + 1 ∨ d = 0 → combs (l.drop s) (m + 1) = (List.range' s d).flatMap fun i => (combs (l.drop (i + 1)) m).map (l.getD i 0 :: ·)
  | 0, s, h1, _ => by
    rw [combs_short _ _ (by rw [List.length_drop]; omega)]
    rfl
  | d + 1, s, h1, h2 => by
    have hs : s < l.length := by omega
    rw [List.drop_eq_getElem_cons hs]
    show (combs (l.drop (s + 1)) m).map _ ++ combs (l.drop (s + 1)) (m + 1) = _
    rw [combs_from l m d (s + 1) (by omega) (by omega), List.range'_succ, List.flatMap_cons]
    congr 2
    funext c
    rw [List.getD_eq_getElem?_getD, List.getElem?_eq_getElem hs]
    rfl
/-- one server more, in the order of the law -/
def moreC (l : List Nat) (c : List Nat) : List (List Nat) := (l.filter fun y => decide (c = [] ∨ c.getLastD 0 < y)).map fun y => c ++ [y]
theorem last_cons (x : Nat) (c : List Nat) (h : c ≠ []) : (x :: c).getLastD 0 = c.getLastD 0 := by
  cases c with
  | nil => exact absurd rfl h
  | cons a r => rfl
theorem last_mem (c : List Nat) (h : c ≠ []) : c.getLastD 0 ∈ c := by
  cases c with
  | nil => exact absurd rfl h
  | cons a r =>
    have e : (a :: r).getLastD 0 = (a :: r).getLast h := by
      rw [List.getLastD_cons, List.getLast_eq_getLastD]
    rw [e]
    exact List.getLast_mem h
theorem flat_congr {α β : Type} {f g : α → List β} : ∀ {l : List α}, (∀ a ∈ l, f a = g a) → l.flatMap f = l.flatMap g
  | [], _ => rfl
  | a :: l, h => by rw [List.flatMap_cons, List.flatMap_cons, h a List.mem_cons_self, flat_congr fun b hb => h b (List.mem_cons_of_mem _ hb)]
theorem combs_more : ∀ (l : List Nat) (t : Nat), Asc l → (combs l t).flatMap (moreC l) = combs l (t + 1)
  | [], 0, _ => rfl
  | [], t + 1, _ => rfl
  | x :: r, 0, h => by
    obtain ⟨h1, h2⟩ := List.pairwise_cons.mp h
    have ih := combs_more r 0 h2
    rw [combs_zero] at ih ⊢
    rw [List.flatMap_cons, List.flatMap_nil, List.append_nil] at ih ⊢
    show _ = (combs r 0).map (x :: ·) ++ combs r 1
    rw [← ih, combs_zero]
    unfold moreC
    rw [List.filter_cons_of_pos (by simp)]
    rfl
  | x :: r, t + 1, h => by
    obtain ⟨h1, h2⟩ := List.pairwise_cons.mp h
    show ((combs r t).map (x :: ·) ++ combs r (t + 1)).flatMap (moreC (x :: r)) = (combs r (t + 1)).map (x :: ·) ++ combs r (t + 2)
    rw [List.flatMap_append]
    have e2 : (combs r (t + 1)).flatMap (moreC (x :: r)) = combs r (t + 2) := by
      rw [← combs_more r (t + 1) h2]
      refine flat_congr fun c hc => ?_
      obtain ⟨g1, g2⟩ := combs_good r (t + 1) c hc
      have ne : c ≠ [] := fun e => by rw [e] at g1; cases g1
      have hl := h1 _ (g2.subset (last_mem c ne))
      unfold moreC
      rw [List.filter_cons_of_neg]
      simp only [decide_eq_true_eq, not_or]
      exact ⟨ne, by omega⟩
    have e1 : ((combs r t).map (x :: ·)).flatMap (moreC (x :: r)) = (combs r (t + 1)).map (x :: ·) := by
      rw [← combs_more r t h2, List.flatMap_map, List.map_flatMap]
      refine flat_congr fun c hc => ?_
      obtain ⟨g1, g2⟩ := combs_good r t c hc
      unfold moreC
      rw [List.map_map]
      by_cases ne : c = []
      · subst ne
        rw [List.filter_cons_of_neg (by simp)]
        have e : (r.filter fun y => decide (([x] : List Nat) = [] ∨ ([x] : List Nat).getLastD 0 < y)) = r.filter fun y => decide (([] : List Nat) = [] ∨ ([] : List Nat).getLastD 0 < y) := by
          refine List.filter_congr fun y hy => ?_
          have := h1 y hy
          simp [this]
        rw [e]
        rfl
      · have hl := h1 _ (g2.subset (last_mem c ne))
        rw [List.filter_cons_of_neg (by
          simp only [decide_eq_true_eq, not_or]
          exact ⟨by simp, by rw [last_cons x c ne]; omega⟩)]
        have e : (r.filter fun y => decide (x :: c = [] ∨ (x :: c).getLastD 0 < y)) = r.filter fun y => decide (c = [] ∨ c.getLastD 0 < y) := by
          refine List.filter_congr fun y hy => ?_
          rw [last_cons x c ne]
          simp [ne]
        rw [e]
        rfl
    rw [e1, e2]
/-! the program's beginnings -/
def stepB (l : List Nat) (m : Nat) (b : List Nat × Nat) : List (List Nat × Nat) := (List.range' b.2 (l.length + 1 - m - b.2)).map fun i => (b.1 ++ [l.getD i 0], i + 1)
def begB (l : List Nat) (k : Nat) : Nat → List (List Nat × Nat)
  | 0 => [([], 0)]
  | t + 1 => (begB l k t).flatMap (stepB l (k - t))
def restB (l : List Nat) (m : Nat) (b : List Nat × Nat) : List (List Nat) := (combs (l.drop b.2) m).map (b.1 ++ ·)
theorem step_rest (l : List Nat) (m : Nat) (b : List Nat × Nat) : (stepB l (m + 1) b).flatMap (restB l m) = restB l (m + 1) b := by
  unfold stepB restB
  rw [combs_from l m (l.length + 1 - (m + 1) - b.2) b.2 (by omega) (by omega), List.flatMap_map, List.map_flatMap]
  refine flat_congr fun i _ => ?_
  rw [List.map_map]
  refine List.map_congr_left fun c _ => ?_
  show b.1 ++ [l.getD i 0] ++ c = b.1 ++ (l.getD i 0 :: c)
  rw [List.append_assoc]
  rfl
theorem flat_flat {α β γ : Type} (f : α → List β) (g : β → List γ) : ∀ l : List α, (l.flatMap f).flatMap g = l.flatMap fun a => (f a).flatMap g
  | [] => rfl
  | a :: l => by rw [List.flatMap_cons, List.flatMap_append, List.flatMap_cons, flat_flat f g l]
theorem beg_rest (l : List Nat) (k : Nat) : ∀ t, t ≤ k → (begB l k t).flatMap (restB l (k - t)) = combs l k
  | 0, _ => by
    show restB l k ([], 0) ++ [] = _
    unfold restB
    rw [List.append_nil]
    show (combs l k).map _ = _
    exact List.map_id _
  | t + 1, h => by
    rw [← beg_rest l k t (by omega)]
    show ((begB l k t).flatMap (stepB l (k - t))).flatMap _ = _
    rw [flat_flat]
    refine flat_congr fun b _ => ?_
    have e : k - t = (k - (t + 1)) + 1 := by omega
    rw [e]
    exact step_rest l _ b
theorem map_flat {α β : Type} (f : α → β) : ∀ l : List α, l.flatMap (fun a => [f a]) = l.map f
  | [] => rfl
  | a :: l => by rw [List.flatMap_cons, map_flat f l]; rfl
theorem beg_end (l : List Nat) (k : Nat) : (begB l k k).map (·.1) = combs l k := by
  rw [← beg_rest l k k (Nat.le_refl _), ← map_flat]
  refine flat_congr fun b _ => ?_
  unfold restB
  rw [Nat.sub_self, combs_zero]
  show _ = [b.1 ++ []]
  rw [List.append_nil]
theorem beg_fit (l : List Nat) (k : Nat) : ∀ t, t < k → ∀ b ∈ begB l k (t + 1), b.2 + (k - (t + 1)) ≤ l.length := fun t ht b hb => by
  obtain ⟨a, _, hb⟩ := List.mem_flatMap.mp hb
  obtain ⟨i, hi, rfl⟩ := List.mem_map.mp hb
  rw [List.mem_range'_1] at hi
  show i + 1 + _ ≤ _
  omega
theorem len_flat {α β : Type} (f : α → List β) : ∀ l : List α, (∀ a ∈ l, f a ≠ []) → l.length ≤ (l.flatMap f).length
  | [], _ => Nat.zero_le _
  | a :: l, h => by
    rw [List.flatMap_cons, List.length_append, List.length_cons]
    have h1 := len_flat f l fun b hb => h b (List.mem_cons_of_mem _ hb)
    have h2 := List.length_pos_iff.mpr (h a List.mem_cons_self)
    omega
theorem beg_len (l : List Nat) (k : Nat) : ∀ t, t ≤ k → (begB l k t).length ≤ (combs l k).length + 1
  | 0, _ => by show 1 ≤ _; omega
  | t + 1, h => by
    rw [← beg_rest l k (t + 1) h]
    refine Nat.le_succ_of_le (len_flat _ _ fun b hb => ?_)
    have := beg_fit l k t h b hb
    unfold restB
    intro e
    exact combs_ne _ _ (by rw [List.length_drop]; omega) (List.map_eq_nil_iff.mp e)
theorem beg_good (l : List Nat) (k : Nat) : ∀ t, ∀ b ∈ begB l k t, b.1.length = t ∧ b.2 ≤ l.length + 1
  | 0, b, hb => by
    rw [List.mem_singleton.mp hb]
    exact ⟨rfl, Nat.zero_le _⟩
  | t + 1, b, hb => by
    obtain ⟨a, ha, hb⟩ := List.mem_flatMap.mp hb
    obtain ⟨i, hi, rfl⟩ := List.mem_map.mp hb
    rw [List.mem_range'_1] at hi
    obtain ⟨h1, h2⟩ := beg_good l k t a ha
    exact ⟨by show (a.1 ++ _).length = _; rw [List.length_append, h1]; rfl, by show i + 1 ≤ _; omega⟩
theorem fm_le {α β : Type} (f : α → List β) : ∀ (l : List α) (i : Nat), ((l.take i).flatMap f).length ≤ (l.flatMap f).length
  | [], i => by rw [List.take_nil]; exact Nat.le_refl _
  | a :: l, 0 => Nat.zero_le _
  | a :: l, i + 1 => by
    rw [List.take_succ_cons, List.flatMap_cons, List.flatMap_cons, List.length_append, List.length_append]
    have := fm_le f l i
    omega
theorem fm_step {α β : Type} {f : α → List β} {l : List α} {i : Nat} {a : α} (h : l[i]? = some a) : (l.take (i + 1)).flatMap f = (l.take i).flatMap f ++ f a := by
  rw [List.take_add_one, h, List.flatMap_append]
  show _ ++ [a].flatMap f = _
  rw [List.flatMap_cons, List.flatMap_nil, List.append_nil]
theorem take_snoc {α : Type} {l : List α} {i : Nat} {a : α} (h : l[i]? = some a) : l.take (i + 1) = l.take i ++ [a] := by
  rw [List.take_add_one, h]
  rfl
theorem combsLen : ∀ (l : List Nat) (k : Nat), (combs l k).length = C l.length k
  | l, 0 => by rw [combs_zero]; cases l <;> rfl
  | [], k + 1 => rfl
  | x :: r, k + 1 => by
    show ((combs r k).map _ ++ combs r (k + 1)).length = C (r.length + 1) (k + 1)
    rw [List.length_append, List.length_map, combsLen r k, combsLen r (k + 1)]
    rfl
theorem combsNodup : ∀ (l : List Nat) (k : Nat), l.Nodup → (combs l k).Nodup
  | l, 0, _ => by
    rw [combs_zero]
    exact List.nodup_cons.mpr ⟨List.not_mem_nil, List.nodup_nil⟩
  | [], k + 1, _ => List.nodup_nil
  | x :: r, k + 1, h => by
    obtain ⟨h1, h2⟩ := List.nodup_cons.mp h
    refine List.nodup_append.mpr ⟨?_, combsNodup r (k + 1) h2, fun c hc d hd e => ?_⟩
    · refine List.Pairwise.map _ (fun a b hab z => hab ?_) (combsNodup r k h2)
      exact (List.cons.inj z).2
    · obtain ⟨c', _, rfl⟩ := List.mem_map.mp hc
      obtain ⟨_, g⟩ := combs_good r (k + 1) d hd
      rw [← e] at g
      exact h1 (g.subset List.mem_cons_self)
theorem ascSub : ∀ {b a : List Nat}, Asc a → Asc b → (∀ x ∈ a, x ∈ b) → a.Sublist b
  | [], [], _, _, _ => List.Sublist.slnil
  | [], x :: a, _, _, h => absurd (h x List.mem_cons_self) List.not_mem_nil
  | y :: b, [], _, _, _ => List.nil_sublist _
  | y :: b, x :: a, ha, hb, h => by
    obtain ⟨a1, a2⟩ := List.pairwise_cons.mp ha
    obtain ⟨b1, b2⟩ := List.pairwise_cons.mp hb
    by_cases e : x = y
    · subst e
      refine (ascSub a2 b2 fun z hz => ?_).cons_cons x
      rcases List.mem_cons.mp (h z (List.mem_cons_of_mem _ hz)) with rfl | h2
      · have := a1 z hz
        omega
      · exact h2
    · refine (ascSub (a := x :: a) ha b2 fun z hz => ?_).cons y
      rcases List.mem_cons.mp (h z hz) with rfl | h2
      · rcases List.mem_cons.mp hz with rfl | hz
        · exact absurd rfl e
        · have h3 := a1 z hz
          rcases List.mem_cons.mp (h x List.mem_cons_self) with h4 | h4
          · exact absurd h4 e
          · have := b1 x h4
            omega
      · exact h2
/-- all (set, server) with the server outside -/
def without (n x : Nat) : List Nat := (List.range n).filter fun y => !decide (y = x)
def allE (n sz : Nat) : List (List Nat × Nat) := (List.range n).flatMap fun x => (combs (without n x) sz).map fun c => (c, x)
theorem without_len {n x : Nat} (h : x < n) : (without n x).length = n - 1 := by
  unfold without
  have hp : ∀ l : List Nat, (l.filter fun y => !decide (y = x)).length + (l.filter fun y => decide (y = x)).length = l.length := by
    intro l
    induction l with
    | nil => rfl
    | cons a l ih =>
      by_cases e : a = x
      · rw [List.filter_cons_of_neg (by simpa using e), List.filter_cons_of_pos (by simpa using e), List.length_cons, List.length_cons]
        omega
      · rw [List.filter_cons_of_pos (by simpa using e), List.filter_cons_of_neg (by simpa using e), List.length_cons, List.length_cons]
        omega
  replace hp := hp (List.range n)
  rw [List.length_range] at hp
  have h1 : ((List.range n).filter fun y => decide (y = x)).length = 1 := by
    rw [← List.countP_eq_length_filter]
    have e : (List.range n).countP (fun y => decide (y = x)) = (List.range n).count x := by
      unfold List.count
      refine List.countP_congr fun y _ => ?_
      simp
    rw [e]
    exact List.Nodup.count List.nodup_range |>.trans (if_pos (List.mem_range.mpr h))
  omega
theorem without_asc (n x : Nat) : Asc (without n x) := List.Pairwise.filter _ (by
  have := List.pairwise_lt_range (n := n)
  exact this)
theorem flat_const {α β : Type} (f : α → List β) (k : Nat) : ∀ l : List α, (∀ a ∈ l, (f a).length = k) → (l.flatMap f).length = l.length * k
  | [], _ => by simp
  | a :: l, h => by
    rw [List.flatMap_cons, List.length_append, h a List.mem_cons_self, flat_const f k l fun b hb => h b (List.mem_cons_of_mem _ hb), List.length_cons, Nat.succ_mul]
    omega
theorem allE_len (n sz : Nat) : (allE n sz).length = n * C (n - 1) sz := by
  unfold allE
  rw [flat_const _ (C (n - 1) sz) _ fun x hx => ?_, List.length_range]
  rw [List.length_map, combsLen, without_len (List.mem_range.mp hx)]
theorem allE_mem {n sz x : Nat} {c : List Nat} (hx : x < n) (hl : c.length = sz) (ha : Asc c) (hc : ∀ y ∈ c, y < n ∧ y ≠ x) : (c, x) ∈ allE n sz := by
  refine List.mem_flatMap.mpr ⟨x, List.mem_range.mpr hx, List.mem_map.mpr ⟨c, ?_, rfl⟩⟩
  have := combs_mem (without n x) c (ascSub ha (without_asc n x) fun y hy => List.mem_filter.mpr ⟨List.mem_range.mpr (hc y hy).1, by simpa using (hc y hy).2⟩)
  rw [hl] at this
  exact this
theorem subG_len {α : Type} [DecidableEq α] : ∀ {ks ns : List α}, ks.Nodup → (∀ k ∈ ks, k ∈ ns) → ks.length ≤ ns.length
  | [], _, _, _ => Nat.zero_le _
  | k :: r, ns, h, hs => by
    have hk := hs k List.mem_cons_self
    have h1 := subG_len (ks := r) (ns := ns.erase k) (List.nodup_cons.mp h).2 fun x hx => (List.mem_erase_of_ne (fun e : x = k => (List.nodup_cons.mp h).1 (e ▸ hx))).mpr (hs x (List.mem_cons_of_mem _ hx))
    have h2 := List.length_erase_of_mem hk
    have h3 := List.length_pos_of_mem hk
    show r.length + 1 ≤ ns.length
    omega
/-! sorted -/
def srt (l : List Nat) : List Nat := l.mergeSort fun a b => decide (a ≤ b)
theorem srt_perm (l : List Nat) : (srt l).Perm l := List.mergeSort_perm l _
theorem srt_le (l : List Nat) : (srt l).Pairwise (· ≤ ·) := (List.pairwise_mergeSort (le := fun a b : Nat => decide (a ≤ b)) (fun a b c h1 h2 => by simp at *; omega) (fun a b => by simp; omega) l).imp fun h => of_decide_eq_true h
theorem srt_asc {l : List Nat} (h : l.Nodup) : Asc (srt l) := ((srt_le l).and ((srt_perm l).nodup_iff.mpr h)).imp fun ⟨a, b⟩ => by omega
theorem srt_of {l m : List Nat} (p : m.Perm l) (h : m.Pairwise (· ≤ ·)) : m = srt l :=
  List.Perm.eq_of_pairwise (le := fun a b : Nat => a ≤ b) (fun a b _ _ h1 h2 => Nat.le_antisymm h1 h2) h (srt_le l) (p.trans (srt_perm l).symm)
end Ef
namespace Ef
/-! ### the least numbers once more: common multiples of n, n - 1, .. -/
def leastP (n : Nat) : Nat → Nat
  | 0 => 1
  | d + 1 => stepL (leastP n d) (n - d)
theorem parts_ok : rowsOk (fun n d a => Nat.beq (leastP n d) a) 60 1 row0 = true := by decide +kernel
theorem leastP_eq {n d : Nat} (h1 : 1 ≤ n) (h6 : n ≤ 60) (hd : d ≤ n) : leastP n d = leastL n d :=
  Nat.eq_of_beq_eq_true (rows_all 60 1 row0 row0_is (by decide) parts_ok n h1 (by omega) h6 d hd)
theorem stepL_lcm (a b : Nat) : stepL a b = Nat.lcm a b := by
  unfold stepL Nat.lcm
  exact Nat.div_mul_right_comm (Nat.gcd_dvd_left a b) b
theorem stepL_dvd (a b c : Nat) : stepL a b ∣ c ↔ a ∣ c ∧ b ∣ c := by
  rw [stepL_lcm]
  exact ⟨fun h => ⟨Nat.dvd_trans (Nat.dvd_lcm_left a b) h, Nat.dvd_trans (Nat.dvd_lcm_right a b) h⟩, fun h => Nat.lcm_dvd h.1 h.2⟩
theorem leastP_dvd (n c : Nat) : ∀ d, leastP n d ∣ c ↔ ∀ i, i < d → (n - i) ∣ c
  | 0 => ⟨fun _ i h => absurd h (Nat.not_lt_zero i), fun _ => Nat.one_dvd c⟩
  | d + 1 => by
    show stepL (leastP n d) (n - d) ∣ c ↔ _
    rw [stepL_dvd, leastP_dvd n c d]
    constructor
    · intro h i hi
      by_cases e : i = d
      · rw [e]
        exact h.2
      · exact h.1 i (by omega)
    · intro h
      exact ⟨fun i hi => h i (by omega), h d (by omega)⟩
/-- a number is a multiple of the least one exactly if n, n - 1, .. divide it -/
theorem least_parts {n d : Nat} (h1 : 1 ≤ n) (h6 : n ≤ 60) (hd : d ≤ n) (c : Nat) : leastL n d ∣ c ↔ ∀ i, i < d → (n - i) ∣ c := by
  rw [← leastP_eq h1 h6 hd]
  exact leastP_dvd n c d
def partsV (n d : Nat) : List Nat := (List.range d).map fun i => n - i
theorem parts_at {n d i : Nat} (h : i < d) : (partsV n d)[i]? = some (n - i) := by
  unfold partsV
  rw [List.getElem?_map, List.getElem?_range h]
  rfl
theorem parts_len (n d : Nat) : (partsV n d).length = d := by
  unfold partsV
  rw [List.length_map, List.length_range]
def wdsL (n c d : Nat) : List Nat := (List.range d).map (wd n c)
theorem wds_step (n c d : Nat) : wdsL n c (d + 1) = wdsL n c d ++ [wd n c d] := by
  unfold wdsL
  rw [List.range_succ, List.map_append]
  rfl
theorem wds_len (n c d : Nat) : (wdsL n c d).length = d := by
  unfold wdsL
  rw [List.length_map, List.length_range]
/-- one step of the edges -/
theorem edge_step {n s : Nat} (h : s < n) : n * C (n - 1) s * (n - 1 - s) / (s + 1) = n * C (n - 1) (s + 1) := by
  rw [Nat.mul_assoc, ← C_step (n - 1) s (by omega), ← Nat.mul_assoc, Nat.mul_div_cancel _ (Nat.succ_pos s)]
end Ef
namespace Ef
/-! ### from a place back to a number -/
/-- what is left of the servers -/
def folL (n c : Nat) : List Nat → List Nat → Nat → List Nat
  | [], L, _ => L
  | s :: ss, L, r => folL n c ss (L.eraseIdx (r / wd n c s)) (wd n c s * (L.getD (r / wd n c s) 0 - r / wd n c s) + r % wd n c s)
theorem fol_snoc (n c : Nat) (s : Nat) : ∀ (ss L : List Nat) (r : Nat), fol n c (ss ++ [s]) L r =
    ((fol n c ss L r).1 ++ [(folL n c ss L r).getD ((fol n c ss L r).2 / wd n c s) 0],
      wd n c s * ((folL n c ss L r).getD ((fol n c ss L r).2 / wd n c s) 0 - (fol n c ss L r).2 / wd n c s) + (fol n c ss L r).2 % wd n c s)
  | [], L, r => rfl
  | t :: ss, L, r => by
    rw [List.cons_append, fol_cons, fol_snoc n c s ss, fol_cons]
    rfl
theorem folL_snoc (n c : Nat) (s : Nat) : ∀ (ss L : List Nat) (r : Nat), folL n c (ss ++ [s]) L r = (folL n c ss L r).eraseIdx ((fol n c ss L r).2 / wd n c s)
  | [], L, r => rfl
  | t :: ss, L, r => by
    rw [List.cons_append]
    show folL n c (ss ++ [s]) _ _ = _
    rw [folL_snoc n c s ss]
    rfl
theorem wd_back {n c b : Nat} (h : n * C (n - 1) b ∣ c) (hb : b < n) : c / C n (b + 1) = wd n c b * (b + 1) := by
  have e := wd_eq h
  obtain ⟨m, rfl⟩ : ∃ m, n = m + 1 := ⟨n - 1, by omega⟩
  have a := C_absorb m b
  rw [Nat.add_sub_cancel] at e
  rw [← a] at e
  have p := C_pos (m + 1) (b + 1) (by omega)
  generalize wd (m + 1) c b = w at e ⊢
  have e2 : c = w * (b + 1) * C (m + 1) (b + 1) := by
    rw [← e, Nat.mul_comm (C (m + 1) (b + 1)), Nat.mul_assoc]
  rw [e2, Nat.mul_div_cancel _ p]
theorem wd_out {n c b : Nat} (h : n * C (n - 1) b ∣ c) (hb : b < n) : wd n c b * (n - b) * C n b = c := by
  have e := wd_eq h
  obtain ⟨m, rfl⟩ : ∃ m, n = m + 1 := ⟨n - 1, by omega⟩
  have a := C_absorb m b
  have s := C_step (m + 1) b (by omega)
  rw [Nat.add_sub_cancel] at e
  rw [Nat.mul_assoc, Nat.mul_comm (m + 1 - b), ← s, a]
  exact e
theorem erasePerm : ∀ (l : List Nat) (k x : Nat), l[k]? = some x → (x :: l.eraseIdx k).Perm l
  | [], _, _, h => by cases h
  | a :: r, 0, x, h => by
    obtain rfl : a = x := Option.some.inj h
    exact List.Perm.refl _
  | a :: r, k + 1, x, h => (List.Perm.swap a x _).trans ((erasePerm r k x h).cons a)
theorem range'_end (b : Nat) : List.range' 0 (b + 1) = List.range' 0 b ++ [b] := by
  rw [← List.range_eq_range', ← List.range_eq_range', List.range_succ]
theorem rev_range (b : Nat) : (List.range' 0 (b + 1)).reverse = b :: (List.range' 0 b).reverse := by
  rw [range'_end, List.reverse_append]
  rfl
/-- one step back -/
structure Place (n c b : Nat) (ms : List Nat) (r : Nat) : Prop where
  asc : Asc ms
  lt : ∀ x ∈ ms, x < n
  len : ms.length = b
  rest : r < c / C n b
theorem Place.ix {n c b r : Nat} {ms : List Nat} (h : Place n c (b + 1) ms r) (hd : n * C (n - 1) b ∣ c) (hb : b < n) : r / wd n c b < ms.length := by
  have h1 := h.rest
  rw [wd_back hd hb] at h1
  rw [h.len]
  exact Nat.div_lt_of_lt_mul h1
theorem Place.prev {n c b r : Nat} {ms : List Nat} (h : Place n c (b + 1) ms r) (hd : ∀ k, k ≤ b → n * C (n - 1) k ∣ c) (hb : b < n) (hc : 0 < c) :
    Place n c b (ms.eraseIdx (r / wd n c b)) (wd n c b * (ms.getD (r / wd n c b) 0 - r / wd n c b) + r % wd n c b) := by
  have hi := h.ix (hd b (Nat.le_refl _)) hb
  have w0 := wd_pos (hd b (Nat.le_refl _)) hc
  have hx := getD_of hi
  have g1 := asc_ge h.asc hx
  have g2 := asc_le h.asc h.lt hx
  have hl := h.len
  refine ⟨asc_erase h.asc _, fun x hx => h.lt x (List.mem_of_mem_eraseIdx hx), ?_, ?_⟩
  · rw [List.length_eraseIdx, if_pos hi, hl]
    rfl
  · have h1 : r % wd n c b < wd n c b := Nat.mod_lt _ w0
    have h2 : ms.getD (r / wd n c b) 0 - r / wd n c b + 1 ≤ n - b := by omega
    have h3 : wd n c b * (ms.getD (r / wd n c b) 0 - r / wd n c b + 1) ≤ wd n c b * (n - b) := Nat.mul_le_mul_left _ h2
    have h4 : c / C n b = wd n c b * (n - b) := by
      have e := wd_out (hd b (Nat.le_refl _)) hb
      have p := C_pos n b (by omega)
      conv => lhs; rw [← e]
      exact Nat.mul_div_cancel _ p
    rw [h4]
    rw [Nat.mul_add, Nat.mul_one] at h3
    omega
theorem back_ok {n c : Nat} (hc : 0 < c) : ∀ (b : Nat) (ms : List Nat) (r : Nat), b ≤ n → (∀ k, k < b → n * C (n - 1) k ∣ c) → Place n c b ms r → FolOk n c (List.range' 0 b).reverse ms r
  | 0, _, _, _, _, _ => trivial
  | b + 1, ms, r, hb, hd, h => by
    rw [rev_range]
    have hi := h.ix (hd b (by omega)) (by omega)
    exact ⟨wd_pos (hd b (by omega)) hc, hi, asc_ge h.asc (getD_of hi), back_ok hc b _ _ (by omega) (fun k hk => hd k (by omega)) (h.prev (fun k hk => hd k (by omega)) (by omega) hc)⟩
theorem Std.less {n d c : Nat} (h : Std n (d + 1) c) : Std n d c := by
  have hd := h.dn
  exact ⟨h.n60, h.n1, by omega, h.c0, Nat.dvd_trans (stepL_left _ _ (leastL_pos (by omega))) h.dv⟩
/-- the number of the list that has this place -/
def back (n c : Nat) (ms : List Nat) (r : Nat) : Nat := (fol n c (List.range' 0 ms.length).reverse ms r).2
theorem back_fwd {n c : Nat} (hc : 0 < c) : ∀ (b : Nat) (ms : List Nat) (r : Nat), b ≤ n → (∀ k, k < b → n * C (n - 1) k ∣ c) → Place n c b ms r →
    (fol n c (List.range' 0 b).reverse ms r).2 < c ∧
    (fol n c (List.range' 0 b) (List.range' 0 n) (fol n c (List.range' 0 b).reverse ms r).2).1.Perm ms ∧
    (fol n c (List.range' 0 b) (List.range' 0 n) (fol n c (List.range' 0 b).reverse ms r).2).2 = r ∧
    Compl n ms (folL n c (List.range' 0 b) (List.range' 0 n) (fol n c (List.range' 0 b).reverse ms r).2)
  | 0, ms, r, _, _, h => by
    have e : ms = [] := List.length_eq_zero_iff.mp h.len
    have hr := h.rest
    rw [C_zero, Nat.div_one] at hr
    subst e
    exact ⟨hr, List.Perm.refl _, rfl, Compl.start n⟩
  | b + 1, ms, r, hb, hd, h => by
    have hi := h.ix (hd b (by omega)) (by omega)
    have w0 := wd_pos (hd b (by omega)) hc
    have hx := getD_of hi
    have g1 := asc_ge h.asc hx
    have pv := h.prev (fun k hk => hd k (by omega)) (by omega) hc
    obtain ⟨i1, i2, i3, i4⟩ := back_fwd hc b _ _ (by omega) (fun k hk => hd k (by omega)) pv
    rw [rev_range, fol_cons]
    show (fol n c (List.range' 0 b).reverse (ms.eraseIdx (r / wd n c b)) (wd n c b * (ms.getD (r / wd n c b) 0 - r / wd n c b) + r % wd n c b)).2 < c ∧ _
    generalize (fol n c (List.range' 0 b).reverse (ms.eraseIdx (r / wd n c b)) (wd n c b * (ms.getD (r / wd n c b) 0 - r / wd n c b) + r % wd n c b)).2 = k at i1 i2 i3 i4 ⊢
    show k < c ∧ (fol n c (List.range' 0 (b + 1)) (List.range' 0 n) k).1.Perm ms ∧ (fol n c (List.range' 0 (b + 1)) (List.range' 0 n) k).2 = r ∧ Compl n ms (folL n c (List.range' 0 (b + 1)) (List.range' 0 n) k)
    rw [range'_end, fol_snoc, folL_snoc, i3]
    have hm : r % wd n c b < wd n c b := Nat.mod_lt _ w0
    have e1 : (wd n c b * (ms.getD (r / wd n c b) 0 - r / wd n c b) + r % wd n c b) / wd n c b = ms.getD (r / wd n c b) 0 - r / wd n c b := by
      rw [Nat.mul_add_div w0, Nat.div_eq_of_lt hm, Nat.add_zero]
    have e2 : (wd n c b * (ms.getD (r / wd n c b) 0 - r / wd n c b) + r % wd n c b) % wd n c b = r % wd n c b := by
      rw [Nat.mul_add_mod, Nat.mod_mod]
    rw [e1, e2]
    generalize folL n c (List.range' 0 b) (List.range' 0 n) k = L at i4
    have hdm := Nat.div_add_mod r (wd n c b)
    generalize r / wd n c b = i at hi hx g1 pv i1 i2 i3 i4 hdm e1 e2 ⊢
    generalize ms.getD i 0 = x at hx g1 pv i1 i2 i3 i4 e1 e2 ⊢
    have pm : ms.Perm (ms.eraseIdx i ++ [x]) := ((List.perm_append_singleton x _).trans (erasePerm ms i x hx)).symm
    have hmem : x ∈ L := (i4.mem _).mpr ⟨h.lt _ (List.mem_of_getElem? hx), not_mem_erase (asc_nodup h.asc) hx⟩
    obtain ⟨j, hj⟩ := List.getElem?_of_mem hmem
    have hjx := i4.index hj pm h.asc hx
    obtain rfl : x - i = j := by omega
    have ex : L.getD (x - i) 0 = x := by
      have := getD_of (L := L) (i := x - i) (List.getElem?_eq_some_iff.mp hj).1
      rw [hj] at this
      exact (Option.some.inj this).symm
    rw [ex]
    refine ⟨i1, (i2.append_right _).trans pm.symm, ?_, i4.next hj pm h.asc⟩
    show wd n c b * (x - (x - i)) + r % wd n c b = r
    rw [show x - (x - i) = i by omega]
    exact hdm
end Ef
namespace Ef
/-! ### counts by formula -/
def sumTo (g : Nat → Nat) : Nat → Nat
  | 0 => 0
  | n + 1 => sumTo g n + g n
theorem sumTo_congr {g h : Nat → Nat} : ∀ {n : Nat}, (∀ i, i < n → g i = h i) → sumTo g n = sumTo h n
  | 0, _ => rfl
  | n + 1, e => by
    show sumTo g n + g n = sumTo h n + h n
    rw [sumTo_congr (n := n) fun i hi => e i (by omega), e n (by omega)]
theorem sumTo_add (g h : Nat → Nat) : ∀ n : Nat, sumTo (fun i => g i + h i) n = sumTo g n + sumTo h n
  | 0 => rfl
  | n + 1 => by
    show sumTo _ n + (g n + h n) = sumTo g n + g n + (sumTo h n + h n)
    rw [sumTo_add g h n]
    omega
theorem sumTo_mul (k : Nat) (g : Nat → Nat) : ∀ n : Nat, sumTo (fun i => k * g i) n = k * sumTo g n
  | 0 => rfl
  | n + 1 => by
    show sumTo _ n + k * g n = k * (sumTo g n + g n)
    rw [sumTo_mul k g n, Nat.mul_add]
theorem sumTo_zero {g : Nat → Nat} : ∀ {n : Nat}, (∀ i, i < n → g i = 0) → sumTo g n = 0
  | 0, _ => rfl
  | n + 1, e => by
    show sumTo g n + g n = 0
    rw [sumTo_zero (n := n) fun i hi => e i (by omega), e n (by omega)]
theorem sumTo_shift (g : Nat → Nat) : ∀ n : Nat, sumTo g (n + 1) = g 0 + sumTo (fun i => g (i + 1)) n
  | 0 => by
    show 0 + g 0 = g 0 + 0
    omega
  | n + 1 => by
    show sumTo g (n + 1) + g (n + 1) = g 0 + (sumTo (fun i => g (i + 1)) n + g (n + 1))
    rw [sumTo_shift g n]
    omega
theorem sumTo_cut (g : Nat → Nat) (a : Nat) : ∀ b : Nat, sumTo g (a + b) = sumTo g a + sumTo (fun i => g (a + i)) b
  | 0 => rfl
  | b + 1 => by
    show sumTo g (a + b) + g (a + b) = sumTo g a + (sumTo (fun i => g (a + i)) b + g (a + b))
    rw [sumTo_cut g a b]
    omega
theorem edge_alt {n i : Nat} (h : i < n) : C n i * (n - i) = n * C (n - 1) i := by
  obtain ⟨m, rfl⟩ : ∃ m, n = m + 1 := ⟨n - 1, by omega⟩
  have s := C_step (m + 1) i (by omega)
  have a := C_absorb m i
  rw [← s, a, Nat.add_sub_cancel]
theorem edge_alt2 {n i : Nat} (h : i < n) : C n (i + 1) * (i + 1) = n * C (n - 1) i := by
  obtain ⟨m, rfl⟩ : ∃ m, n = m + 1 := ⟨n - 1, by omega⟩
  rw [C_absorb m i, Nat.add_sub_cancel]
/-- the harmonic triangle -/
theorem leib {n i T : Nat} (hi : i < n) (h1 : (n + 1) * C n i ∣ T) (h2 : (n + 1) * C n (i + 1) ∣ T) : n * C (n - 1) i ∣ T ∧ wd n T i = wd (n + 1) T i + wd (n + 1) T (i + 1) := by
  have e1 : wd (n + 1) T i * ((n + 1) * C n i) = T := Nat.div_mul_cancel h1
  have e2 : wd (n + 1) T (i + 1) * ((n + 1) * C n (i + 1)) = T := Nat.div_mul_cancel h2
  have a1 := edge_alt hi
  have a2 := edge_alt2 hi
  have key : (wd (n + 1) T i + wd (n + 1) T (i + 1)) * (n * C (n - 1) i) = T := by
    refine Nat.eq_of_mul_eq_mul_left (show 0 < n + 1 by omega) ?_
    generalize wd (n + 1) T i = a at e1
    generalize wd (n + 1) T (i + 1) = b at e2
    have x1 : (n + 1) * (a * (n * C (n - 1) i)) = T * (n - i) := by
      rw [← a1, ← e1]
      simp only [Nat.mul_assoc, Nat.mul_comm, Nat.mul_left_comm]
    have x2 : (n + 1) * (b * (n * C (n - 1) i)) = T * (i + 1) := by
      rw [← a2, ← e2]
      simp only [Nat.mul_assoc, Nat.mul_comm, Nat.mul_left_comm]
    have x3 : (n + 1) * ((a + b) * (n * C (n - 1) i)) = (n + 1) * (a * (n * C (n - 1) i)) + (n + 1) * (b * (n * C (n - 1) i)) := by
      rw [Nat.add_mul a b, Nat.mul_add (n + 1)]
    rw [x3, x1, x2, ← Nat.mul_add T, Nat.mul_comm T]
    congr 1
    omega
  have p : 0 < n * C (n - 1) i := edge_pos hi
  refine ⟨⟨_, by rw [Nat.mul_comm]; exact key.symm⟩, ?_⟩
  show T / (n * C (n - 1) i) = _
  conv => lhs; rw [← key]
  exact Nat.mul_div_cancel _ p
theorem sum_leib {T u f : Nat} (hf : f < u) : ∀ m : Nat, (∀ i, i ≤ m + f → (u + m) * C (u + m - 1) i ∣ T) → (u * C (u - 1) f ∣ T) ∧ sumTo (fun j => C m j * wd (u + m) T (j + f)) (m + 1) = wd u T f
  | 0, h => by
    have h0 := h f (by omega)
    refine ⟨h0, ?_⟩
    show 0 + C 0 0 * wd (u + 0) T (0 + f) = wd u T f
    rw [Nat.zero_add, Nat.zero_add, C_zero, Nat.one_mul, Nat.add_zero]
  | m + 1, h => by
    have hd : ∀ i, i ≤ m + f → (u + m) * C (u + m - 1) i ∣ T ∧ wd (u + m) T i = wd (u + m + 1) T i + wd (u + m + 1) T (i + 1) := fun i hi => by
      have a := h i (by omega)
      have b := h (i + 1) (by omega)
      rw [show u + (m + 1) = u + m + 1 from rfl, Nat.add_sub_cancel] at a b
      exact leib (show i < u + m by omega) a b
    obtain ⟨r1, r2⟩ := sum_leib hf m fun i hi => (hd i hi).1
    refine ⟨r1, ?_⟩
    rw [← r2]
    -- the right side split by the triangle
    have e1 : sumTo (fun j => C m j * wd (u + m) T (j + f)) (m + 1) = sumTo (fun j => C m j * wd (u + m + 1) T (j + f)) (m + 1) + sumTo (fun j => C m j * wd (u + m + 1) T (j + 1 + f)) (m + 1) := by
      rw [← sumTo_add]
      refine sumTo_congr fun j hj => ?_
      rw [(hd (j + f) (by omega)).2, Nat.mul_add, show j + f + 1 = j + 1 + f by omega]
    -- the left side split by Pascal
    have e2 : sumTo (fun j => C (m + 1) j * wd (u + (m + 1)) T (j + f)) (m + 1 + 1) = sumTo (fun j => C m j * wd (u + m + 1) T (j + f)) (m + 1 + 1) + sumTo (fun j => C m j * wd (u + m + 1) T (j + 1 + f)) (m + 1) := by
      rw [sumTo_shift, sumTo_shift (fun j => C m j * wd (u + m + 1) T (j + f)), Nat.add_assoc, ← sumTo_add, C_zero, C_zero]
      congr 1
      refine sumTo_congr fun j hj => ?_
      show C (m + 1) (j + 1) * wd (u + m + 1) T (j + 1 + f) = C m (j + 1) * wd (u + m + 1) T (j + 1 + f) + C m j * wd (u + m + 1) T (j + 1 + f)
      rw [C_ss, Nat.add_mul, Nat.add_comm]
    have e3 : sumTo (fun j => C m j * wd (u + m + 1) T (j + f)) (m + 1 + 1) = sumTo (fun j => C m j * wd (u + m + 1) T (j + f)) (m + 1) := by
      show sumTo _ (m + 1) + C m (m + 1) * _ = _
      rw [C_big m (m + 1) (by omega), Nat.zero_mul, Nat.add_zero]
    rw [e2, e3, e1]
/-- in how many lists the live server number f + 1 stands at index i -/
def fndAt (n T u f i : Nat) : Nat := if i < f ∨ n - u + f < i then 0 else C u f * C (n - u) (i - f) * (u - f) * wd n T i
theorem fnd_sum {n T u f : Nat} (hu : u ≤ n) (hf : f < u) (h : ∀ i, i ≤ n - u + f → n * C (n - 1) i ∣ T) : sumTo (fndAt n T u f) n = T := by
  have en : n = u + (n - u) := by omega
  obtain ⟨r1, r2⟩ := sum_leib (T := T) hf (n - u) fun i hi => by
    rw [← en]
    exact h i hi
  rw [← en] at r2
  have e1 : sumTo (fndAt n T u f) n = sumTo (fndAt n T u f) f + sumTo (fun i => fndAt n T u f (f + i)) (n - f) := by
    have := sumTo_cut (fndAt n T u f) f (n - f)
    rw [show f + (n - f) = n by omega] at this
    exact this
  have e2 : sumTo (fndAt n T u f) f = 0 := sumTo_zero fun i hi => if_pos (.inl hi)
  have e3 : sumTo (fun i => fndAt n T u f (f + i)) (n - f) = sumTo (fun i => fndAt n T u f (f + i)) (n - u + 1) + sumTo (fun i => fndAt n T u f (f + (n - u + 1 + i))) (n - f - (n - u + 1)) := by
    have := sumTo_cut (fun i => fndAt n T u f (f + i)) (n - u + 1) (n - f - (n - u + 1))
    rw [show n - u + 1 + (n - f - (n - u + 1)) = n - f by omega] at this
    exact this
  have e4 : sumTo (fun i => fndAt n T u f (f + (n - u + 1 + i))) (n - f - (n - u + 1)) = 0 := sumTo_zero fun i hi => if_pos (.inr (by omega))
  have e5 : sumTo (fun i => fndAt n T u f (f + i)) (n - u + 1) = (C u f * (u - f)) * sumTo (fun j => C (n - u) j * wd n T (j + f)) (n - u + 1) := by
    rw [← sumTo_mul]
    refine sumTo_congr fun i hi => ?_
    show fndAt n T u f (f + i) = _
    unfold fndAt
    rw [if_neg (by omega), show f + i - f = i by omega, show f + i = i + f by omega]
    simp only [Nat.mul_assoc, Nat.mul_comm, Nat.mul_left_comm]
  rw [e1, e2, e3, e4, e5, r2, Nat.zero_add, Nat.add_zero, edge_alt hf, Nat.mul_comm]
  exact wd_eq r1
end Ef
namespace Ef
/-! ### the numbers of the lists with a beginning -/
/-- what 'numbers_with' keeps on its way: the numbers from lo to hi - 1 have the beginning, the rest of number k is k + mv, L is left -/
structure Wst where
  lo : Int
  hi : Int
  mv : Int
  L : List Nat
def wStep (n c b s : Nat) (x : Wst) : Wst :=
  ⟨max x.lo ((wd n c b : Int) * (x.L.idxOf s : Int) - x.mv), min x.hi ((wd n c b : Int) * ((x.L.idxOf s : Int) + 1) - x.mv), x.mv + (wd n c b : Int) * ((s : Int) - (x.L.idxOf s : Int) - (x.L.idxOf s : Int)), x.L.eraseIdx (x.L.idxOf s)⟩
/-- from level b on -/
def wRun (n c : Nat) : Nat → List Nat → Wst → Option Wst
  | _, [], x => some x
  | b, s :: r, x => if s ∈ x.L then (if (wStep n c b s x).hi ≤ (wStep n c b s x).lo then none else wRun n c (b + 1) r (wStep n c b s x)) else none
/-- the lists whose beginning is t, in the table of depth b -/
structure Beg (n c : Nat) (t : List Nat) (x : Wst) : Prop where
  nd : x.L.Nodup
  asc : Asc x.L
  lo0 : 0 ≤ x.lo
  hic : x.hi ≤ (c : Int)
  iff : ∀ k : Nat, k < c → ((fol n c (List.range' 0 t.length) (List.range' 0 n) k).1 = t ↔ x.lo ≤ (k : Int) ∧ (k : Int) < x.hi)
  rest : ∀ k : Nat, x.lo ≤ (k : Int) → (k : Int) < x.hi → ((fol n c (List.range' 0 t.length) (List.range' 0 n) k).2 : Int) = (k : Int) + x.mv ∧ folL n c (List.range' 0 t.length) (List.range' 0 n) k = x.L
  len : x.L.length = n - t.length
  lt : ∀ y ∈ x.L, y < n
  mem : ∀ z, z ∈ x.L ↔ z < n ∧ z ∉ t
theorem Beg.start (n c : Nat) : Beg n c [] ⟨0, (c : Int), 0, List.range' 0 n⟩ :=
  ⟨asc_nodup (asc_range' n 0), asc_range' n 0, Int.le_refl _, Int.le_refl _, fun k hk => ⟨fun _ => ⟨by show (0 : Int) ≤ _; omega, by show (k : Int) < (c : Int); omega⟩, fun _ => rfl⟩, fun k h1 h2 => ⟨by show (k : Int) = (k : Int) + 0; omega, rfl⟩, by rw [List.length_range']; rfl, fun y hy => mem_range0.mp hy, fun z => by rw [mem_range0]; simp⟩
theorem mem_erase_iff {L : List Nat} {i s : Nat} (nd : L.Nodup) (e : L[i]? = some s) (z : Nat) : z ∈ L.eraseIdx i ↔ z ∈ L ∧ z ≠ s := by
  have pm := erasePerm L i s e
  constructor
  · intro h
    refine ⟨List.mem_of_mem_eraseIdx h, fun c => ?_⟩
    rw [c] at h
    exact not_mem_erase nd e h
  · rintro ⟨h1, h2⟩
    rcases List.mem_cons.mp (pm.mem_iff.mpr h1) with h | h
    · exact absurd h h2
    · exact h
theorem idx_at {L : List Nat} {s : Nat} (h : s ∈ L) : L[L.idxOf s]? = some s := by
  rw [List.getElem?_eq_getElem (List.idxOf_lt_length_of_mem h), List.getElem_idxOf]
theorem div_block {w r i : Nat} (w0 : 0 < w) : r / w = i ↔ w * i ≤ r ∧ r < w * (i + 1) := by
  rw [Nat.div_eq_iff w0]
  rw [Nat.mul_comm i w]
  constructor
  · rintro ⟨h1, h2⟩
    rw [Nat.mul_add, Nat.mul_one]
    exact ⟨h1, by omega⟩
  · rintro ⟨h1, h2⟩
    rw [Nat.mul_add, Nat.mul_one] at h2
    exact ⟨h1, by omega⟩
/-- the rest stays within its bounds, on every way -/
theorem fwd_bound {n c d : Nat} (hd : ∀ b, b < d → n * C (n - 1) b ∣ c) (hc : 0 < c) (hdn : d ≤ n) {k : Nat} (hk : k < c) : ∀ b, b ≤ d →
    (folL n c (List.range' 0 b) (List.range' 0 n) k).length = n - b ∧ Asc (folL n c (List.range' 0 b) (List.range' 0 n) k) ∧ (∀ y ∈ folL n c (List.range' 0 b) (List.range' 0 n) k, y < n) ∧ (fol n c (List.range' 0 b) (List.range' 0 n) k).2 < c / C n b
  | 0, _ => ⟨by show (List.range' 0 n).length = n; rw [List.length_range'], asc_range' n 0, fun y hy => mem_range0.mp hy, by rw [C_zero, Nat.div_one]; exact hk⟩
  | b + 1, h => by
    obtain ⟨h1, h2, h3, h4⟩ := fwd_bound hd hc hdn hk b (by omega)
    have dv := hd b (by omega)
    have w0 := wd_pos dv hc
    have e := wd_out dv (show b < n by omega)
    have p := C_pos n b (by omega)
    have h5 : c / C n b = wd n c b * (n - b) := by
      conv => lhs; rw [← e]
      exact Nat.mul_div_cancel _ p
    rw [h5] at h4
    rw [range'_end, folL_snoc, fol_snoc]
    have hi : (fol n c (List.range' 0 b) (List.range' 0 n) k).2 / wd n c b < (folL n c (List.range' 0 b) (List.range' 0 n) k).length := by
      rw [h1]
      exact Nat.div_lt_of_lt_mul h4
    have hm : (fol n c (List.range' 0 b) (List.range' 0 n) k).2 % wd n c b < wd n c b := Nat.mod_lt _ w0
    have hx := getD_of hi
    have g2 := asc_le h2 h3 hx
    refine ⟨?_, asc_erase h2 _, fun y hy => h3 y (List.mem_of_mem_eraseIdx hy), ?_⟩
    · rw [List.length_eraseIdx, if_pos hi]
      omega
    · rw [wd_back dv (by omega)]
      show wd n c b * _ + _ < _
      have h6 : (folL n c (List.range' 0 b) (List.range' 0 n) k).getD ((fol n c (List.range' 0 b) (List.range' 0 n) k).2 / wd n c b) 0 - (fol n c (List.range' 0 b) (List.range' 0 n) k).2 / wd n c b ≤ b := by omega
      have h7 := Nat.mul_le_mul_left (wd n c b) h6
      rw [Nat.mul_add, Nat.mul_one]
      omega
theorem Beg.step {n c d : Nat} {t : List Nat} {x : Wst} (h : Beg n c t x) (hd : ∀ b, b < d → n * C (n - 1) b ∣ c) (hc : 0 < c) (hdn : d ≤ n) (hb : t.length < d) {s : Nat} (hs : s ∈ x.L) : Beg n c (t ++ [s]) (wStep n c t.length s x) := by
  have dv := hd t.length hb
  have w0 := wd_pos dv hc
  have hix := idx_at hs
  have hil := List.idxOf_lt_length_of_mem hs
  have his := asc_ge h.asc hix
  have ea : (t ++ [s]).length = t.length + 1 := by rw [List.length_append]; rfl
  have e := wd_out dv (show t.length < n by omega)
  have p := C_pos n t.length (by omega)
  have h5 : c / C n t.length = wd n c t.length * (n - t.length) := by
    conv => lhs; rw [← e]
    exact Nat.mul_div_cancel _ p
  -- where the rest lies
  have key : ∀ k : Nat, k < c → x.lo ≤ (k : Int) → (k : Int) < x.hi → ((fol n c (List.range' 0 t.length) (List.range' 0 n) k).2 / wd n c t.length = x.L.idxOf s ↔ (wd n c t.length : Int) * (x.L.idxOf s : Int) - x.mv ≤ (k : Int) ∧ (k : Int) < (wd n c t.length : Int) * ((x.L.idxOf s : Int) + 1) - x.mv) := by
    intro k hk h1 h2
    obtain ⟨r1, _⟩ := h.rest k h1 h2
    rw [div_block w0]
    have c1 : ((wd n c t.length * x.L.idxOf s : Nat) : Int) = (wd n c t.length : Int) * (x.L.idxOf s : Int) := Int.natCast_mul _ _
    have c2 : ((wd n c t.length * (x.L.idxOf s + 1) : Nat) : Int) = (wd n c t.length : Int) * ((x.L.idxOf s : Int) + 1) := Int.natCast_mul _ _
    constructor
    · rintro ⟨a, b⟩
      exact ⟨by omega, by omega⟩
    · rintro ⟨a, b⟩
      exact ⟨by omega, by omega⟩
  have got : ∀ k : Nat, k < c → x.lo ≤ (k : Int) → (k : Int) < x.hi → ((folL n c (List.range' 0 t.length) (List.range' 0 n) k).getD ((fol n c (List.range' 0 t.length) (List.range' 0 n) k).2 / wd n c t.length) 0 = s ↔ (fol n c (List.range' 0 t.length) (List.range' 0 n) k).2 / wd n c t.length = x.L.idxOf s) := by
    intro k hk h1 h2
    obtain ⟨r1, r2⟩ := h.rest k h1 h2
    obtain ⟨b1, _, _, b4⟩ := fwd_bound hd hc hdn hk t.length (by omega)
    rw [h5] at b4
    have hi : (fol n c (List.range' 0 t.length) (List.range' 0 n) k).2 / wd n c t.length < x.L.length := by
      rw [h.len]
      exact Nat.div_lt_of_lt_mul b4
    rw [r2]
    constructor
    · intro z
      have h8 := getD_of hi
      rw [z] at h8
      exact nodup_inj h.nd h8 hix
    · intro z
      rw [z]
      have h8 := getD_of hil
      rw [hix] at h8
      exact (Option.some.inj h8).symm
  refine ⟨h.nd.sublist (List.eraseIdx_sublist _ _), asc_erase h.asc _, ?_, ?_, fun k hk => ?_, fun k h1 h2 => ?_, ?_, fun y hy => h.lt y (List.mem_of_mem_eraseIdx hy), fun z => ?_⟩
  · have := h.lo0
    show 0 ≤ max x.lo _
    omega
  · have := h.hic
    show min x.hi _ ≤ _
    omega
  · rw [ea, range'_end, fol_snoc]
    show _ ++ [_] = t ++ [s] ↔ max x.lo _ ≤ (k : Int) ∧ (k : Int) < min x.hi _
    constructor
    · intro z
      obtain ⟨z1, z2⟩ := List.append_inj' z rfl
      obtain ⟨a, b⟩ := (h.iff k hk).mp z1
      have z3 := (got k hk a b).mp (List.singleton_inj.mp z2)
      have z4 := (key k hk a b).mp z3
      omega
    · intro z
      have a : x.lo ≤ (k : Int) ∧ (k : Int) < x.hi := by omega
      have z3 := (key k hk a.1 a.2).mpr (by omega)
      have z4 := (got k hk a.1 a.2).mpr z3
      rw [(h.iff k hk).mpr a, z4]
  · have h1' : max x.lo ((wd n c t.length : Int) * (x.L.idxOf s : Int) - x.mv) ≤ (k : Int) := h1
    have h2' : (k : Int) < min x.hi ((wd n c t.length : Int) * ((x.L.idxOf s : Int) + 1) - x.mv) := h2
    have a : x.lo ≤ (k : Int) ∧ (k : Int) < x.hi := by omega
    have hk : k < c := by
      have := h.hic
      omega
    have z3 := (key k hk a.1 a.2).mpr (by omega)
    have z4 := (got k hk a.1 a.2).mpr z3
    obtain ⟨r1, r2⟩ := h.rest k a.1 a.2
    rw [ea, range'_end, fol_snoc, folL_snoc, z3, r2]
    rw [z3, r2] at z4
    refine ⟨?_, rfl⟩
    show ((wd n c t.length * (x.L.getD (x.L.idxOf s) 0 - x.L.idxOf s) + (fol n c (List.range' 0 t.length) (List.range' 0 n) k).2 % wd n c t.length : Nat) : Int) = (k : Int) + (x.mv + (wd n c t.length : Int) * ((s : Int) - (x.L.idxOf s : Int) - (x.L.idxOf s : Int)))
    rw [z4]
    have dm := Nat.div_add_mod (fol n c (List.range' 0 t.length) (List.range' 0 n) k).2 (wd n c t.length)
    rw [z3] at dm
    generalize (fol n c (List.range' 0 t.length) (List.range' 0 n) k).2 % wd n c t.length = u at dm
    generalize x.L.idxOf s = i at *
    generalize wd n c t.length = w at *
    rw [Int.natCast_add, Int.natCast_mul, Int.natCast_sub his]
    have dm2 : (w : Int) * (i : Int) + (u : Int) = (k : Int) + x.mv := by
      rw [← r1, ← dm, Int.natCast_add, Int.natCast_mul]
    rw [Int.mul_sub, Int.mul_sub, Int.mul_sub]
    omega
  · rw [ea]
    show (x.L.eraseIdx _).length = _
    rw [List.length_eraseIdx, if_pos hil, h.len]
    omega
  · show z ∈ x.L.eraseIdx _ ↔ _
    rw [mem_erase_iff h.nd hix, h.mem, List.mem_append, List.mem_singleton]
    constructor
    · rintro ⟨⟨a, b⟩, e⟩
      exact ⟨a, fun q => q.elim b e⟩
    · rintro ⟨a, b⟩
      exact ⟨⟨a, fun q => b (.inl q)⟩, fun q => b (.inr q)⟩
theorem fol_take (n c k : Nat) (b : Nat) : ∀ m : Nat, (fol n c (List.range' 0 (b + m)) (List.range' 0 n) k).1.take b = (fol n c (List.range' 0 b) (List.range' 0 n) k).1
  | 0 => by
    have := fol_len n c (List.range' 0 b) (List.range' 0 n) k
    rw [List.length_range'] at this
    exact List.take_of_length_le (by rw [Nat.add_zero]; omega)
  | m + 1 => by
    rw [show b + (m + 1) = b + m + 1 from rfl, range'_end, fol_snoc]
    have := fol_len n c (List.range' 0 (b + m)) (List.range' 0 n) k
    rw [List.length_range'] at this
    show (_ ++ [_]).take b = _
    rw [List.take_append_of_le_length (by omega)]
    exact fol_take n c k b m
theorem wRun_some {n c d : Nat} (hd : ∀ b, b < d → n * C (n - 1) b ∣ c) (hc : 0 < c) (hdn : d ≤ n) {k : Nat} (hk : k < c) : ∀ (r t : List Nat) (x : Wst), t.length + r.length ≤ d → Beg n c t x → (fol n c (List.range' 0 (t.length + r.length)) (List.range' 0 n) k).1 = t ++ r → ∃ y, wRun n c t.length r x = some y ∧ Beg n c (t ++ r) y
  | [], t, x, _, h, _ => ⟨x, rfl, by rw [List.append_nil]; exact h⟩
  | s :: r, t, x, hl, h, he => by
    have el : (s :: r).length = r.length + 1 := rfl
    have e1 : (fol n c (List.range' 0 t.length) (List.range' 0 n) k).1 = t := by
      have := fol_take n c k t.length (s :: r).length
      rw [he, List.take_left] at this
      exact this.symm
    have ea : (t ++ [s]).length = t.length + 1 := by rw [List.length_append]; rfl
    have e2 : (fol n c (List.range' 0 (t.length + 1)) (List.range' 0 n) k).1 = t ++ [s] := by
      have := fol_take n c k (t.length + 1) r.length
      rw [show t.length + 1 + r.length = t.length + (s :: r).length by omega, he] at this
      rw [← this, show t ++ s :: r = (t ++ [s]) ++ r by simp, ← ea, List.take_left]
    have in1 := (h.iff k hk).mp e1
    obtain ⟨r1, r2⟩ := h.rest k in1.1 in1.2
    have dv := hd t.length (by omega)
    have w0 := wd_pos dv hc
    obtain ⟨b1, b2, b3, b4⟩ := fwd_bound hd hc hdn hk t.length (by omega)
    have hs : s ∈ x.L := by
      have e3 := e2
      rw [range'_end, fol_snoc] at e3
      obtain ⟨_, z2⟩ := List.append_inj' e3 rfl
      have z3 := List.singleton_inj.mp z2
      rw [← r2, ← z3]
      refine List.mem_of_getElem? (getD_of ?_)
      rw [b1]
      have e := wd_out dv (show t.length < n by omega)
      have p := C_pos n t.length (by omega)
      have h5 : c / C n t.length = wd n c t.length * (n - t.length) := by
        conv => lhs; rw [← e]
        exact Nat.mul_div_cancel _ p
      rw [h5] at b4
      exact Nat.div_lt_of_lt_mul b4
    have st := h.step hd hc hdn (by omega) hs
    have in2 := (st.iff k hk).mp (by rw [ea]; exact e2)
    obtain ⟨y, y1, y2⟩ := wRun_some hd hc hdn hk r (t ++ [s]) _ (by rw [ea]; omega) st (by rw [ea, show t.length + 1 + r.length = t.length + (s :: r).length by omega, he]; simp)
    refine ⟨y, ?_, by rw [show t ++ s :: r = (t ++ [s]) ++ r by simp]; exact y2⟩
    show (if s ∈ x.L then _ else none) = _
    rw [if_pos hs, if_neg (by omega)]
    rw [ea] at y1
    exact y1
theorem wRun_snoc (n c s : Nat) : ∀ (r : List Nat) (b : Nat) (x : Wst), wRun n c b (r ++ [s]) x = (wRun n c b r x).bind fun y => wRun n c (b + r.length) [s] y
  | [], b, x => rfl
  | u :: r, b, x => by
    show (if u ∈ x.L then _ else none) = Option.bind (if u ∈ x.L then _ else none) _
    by_cases h1 : u ∈ x.L
    · rw [if_pos h1, if_pos h1]
      by_cases h2 : (wStep n c b u x).hi ≤ (wStep n c b u x).lo
      · rw [if_pos h2, if_pos h2]
        rfl
      · rw [if_neg h2, if_neg h2]
        have := wRun_snoc n c s r (b + 1) (wStep n c b u x)
        rw [show (u :: r).length = r.length + 1 from rfl, show b + (r.length + 1) = b + 1 + r.length by omega]
        exact this
    · rw [if_neg h1, if_neg h1]
      rfl
/-- where the numbers of the first i continuations end -/
def cutAt (w : Nat) (y : Wst) (i : Nat) : Int := min y.hi (max y.lo ((w : Int) * (i : Int) - y.mv))
end Ef
namespace Ef
/-! ### sets and their numbers -/
def many (k : Nat) : Nat → Nat
  | 0 => 0
  | j + 1 => C k j
theorem C_many (k j : Nat) : C (k + 1) j = many k j + C k j := by
  cases j with
  | zero => rw [C_zero, C_zero]; rfl
  | succ j => exact C_ss k j
theorem binZ_many (k j : Nat) : binZ (k : Int) ((j : Int) - 1) = (many k j : Int) := by
  cases j with
  | zero => exact if_pos (.inl (by decide))
  | succ j =>
    rw [show ((j + 1 : Nat) : Int) - 1 = (j : Int) by omega]
    exact binZ_nat k j
/-- the set with the number r among those of j of the k servers from s on -/
def unr : Nat → Nat → Nat → Nat → List Nat
  | _, 0, _, _ => []
  | s, k + 1, j, r => if r < many k j then s :: unr (s + 1) k (j - 1) r else unr (s + 1) k j (r - many k j)
/-- the number of a set among those of its size of the k servers from s on -/
def rnk : Nat → Nat → List Nat → Nat
  | _, 0, _ => 0
  | s, k + 1, ms => if ms.head? = some s then rnk (s + 1) k ms.tail else many k ms.length + rnk (s + 1) k ms
def Sub (s k : Nat) (ms : List Nat) : Prop := ms.Pairwise (· < ·) ∧ ∀ m ∈ ms, s ≤ m ∧ m < s + k
theorem unr_spec : ∀ (k s j r : Nat), r < C k j → (unr s k j r).length = j ∧ Sub s k (unr s k j r) ∧ rnk s k (unr s k j r) = r
  | 0, s, j, r, h => by
    cases j with
    | zero =>
      have h0 : r < 1 := h
      exact ⟨rfl, ⟨List.Pairwise.nil, fun m hm => absurd hm List.not_mem_nil⟩, by show 0 = r; omega⟩
    | succ j => exact absurd h (Nat.not_lt_zero _)
  | k + 1, s, j, r, h => by
    rw [C_many] at h
    by_cases c : r < many k j
    · have e : unr s (k + 1) j r = s :: unr (s + 1) k (j - 1) r := if_pos c
      cases j with
      | zero => exact absurd c (Nat.not_lt_zero _)
      | succ j =>
        obtain ⟨h1, h2, h3⟩ := unr_spec k (s + 1) j r c
        rw [e]
        refine ⟨?_, ⟨?_, ?_⟩, ?_⟩
        · show (unr (s + 1) k j r).length + 1 = j + 1
          rw [h1]
        · refine List.Pairwise.cons (fun m hm => ?_) h2.1
          have := h2.2 m hm
          omega
        · intro m hm
          rcases List.mem_cons.mp hm with rfl | hm
          · omega
          · have := h2.2 m hm
            omega
        · have e3 : rnk s (k + 1) (s :: unr (s + 1) k j r) = rnk (s + 1) k (unr (s + 1) k j r) := if_pos rfl
          exact e3.trans h3
    · have e : unr s (k + 1) j r = unr (s + 1) k j (r - many k j) := if_neg c
      obtain ⟨h1, h2, h3⟩ := unr_spec k (s + 1) j (r - many k j) (by omega)
      rw [e]
      refine ⟨h1, ⟨h2.1, fun m hm => by have := h2.2 m hm; omega⟩, ?_⟩
      have hh : ¬ (unr (s + 1) k j (r - many k j)).head? = some s := fun z => by
        have hm : s ∈ unr (s + 1) k j (r - many k j) := List.mem_of_mem_head? z
        have := h2.2 s hm
        omega
      show (if (unr (s + 1) k j (r - many k j)).head? = some s then _ else many k (unr (s + 1) k j (r - many k j)).length + rnk (s + 1) k (unr (s + 1) k j (r - many k j))) = r
      rw [if_neg hh, h1, h3]
      omega
theorem rnk_spec : ∀ (k s : Nat) (ms : List Nat), Sub s k ms → rnk s k ms < C k ms.length ∧ unr s k ms.length (rnk s k ms) = ms
  | 0, s, ms, h => by
    cases ms with
    | nil => exact ⟨Nat.one_pos, rfl⟩
    | cons m r =>
      have := h.2 m List.mem_cons_self
      omega
  | k + 1, s, ms, h => by
    by_cases c : ms.head? = some s
    · cases ms with
      | nil => cases c
      | cons m t =>
        obtain rfl : m = s := Option.some.inj c
        have ht : Sub (m + 1) k t := ⟨(List.pairwise_cons.mp h.1).2, fun x hx => by
          have h1 := (List.pairwise_cons.mp h.1).1 x hx
          have h2 := h.2 x (List.mem_cons_of_mem _ hx)
          omega⟩
        obtain ⟨h1, h2⟩ := rnk_spec k (m + 1) t ht
        have e : rnk m (k + 1) (m :: t) = rnk (m + 1) k t := if_pos rfl
        rw [e]
        have hm : rnk (m + 1) k t < many k (t.length + 1) := h1
        refine ⟨?_, ?_⟩
        · rw [C_many]
          exact Nat.lt_of_lt_of_le hm (Nat.le_add_right _ _)
        · show unr m (k + 1) (t.length + 1) (rnk (m + 1) k t) = m :: t
          have e2 : unr m (k + 1) (t.length + 1) (rnk (m + 1) k t) = m :: unr (m + 1) k t.length (rnk (m + 1) k t) := if_pos hm
          rw [e2, h2]
    · have hs : Sub (s + 1) k ms := ⟨h.1, fun x hx => by
        have h2 := h.2 x hx
        have hne : x ≠ s := fun z => by
          subst z
          cases ms with
          | nil => cases hx
          | cons m t =>
            rcases List.mem_cons.mp hx with z | hx
            · exact c (by rw [z]; rfl)
            · have h3 := (List.pairwise_cons.mp h.1).1 x hx
              have h4 := h.2 m List.mem_cons_self
              omega
        omega⟩
      obtain ⟨h1, h2⟩ := rnk_spec k (s + 1) ms hs
      have e : rnk s (k + 1) ms = many k ms.length + rnk (s + 1) k ms := if_neg c
      rw [e]
      refine ⟨by rw [C_many]; omega, ?_⟩
      have e2 : unr s (k + 1) ms.length (many k ms.length + rnk (s + 1) k ms) = unr (s + 1) k ms.length (many k ms.length + rnk (s + 1) k ms - many k ms.length) := if_neg (by omega)
      rw [e2, Nat.add_sub_cancel_left, h2]
/-! the small sets, one after the other -/
def allG (few : Nat) : Nat → List (List Nat)
  | 0 => [[]]
  | i + 1 => allG few i ++ ((allG few i).filter fun s => decide (s.length < few)).map fun s => s ++ [i]
def allS (n few : Nat) : List (List Nat) := (allG few n).filter fun s => decide (s.length = few)
def inOrder (n few : Nat) : List (List Nat) := (List.range (C n few)).map (unr 0 n few)
def codeN : List Nat → Nat
  | [] => 0
  | d :: r => d * 8 ^ r.length + codeN r
def smallOk (n few : Nat) : Bool := (allS n few).isPerm (inOrder n few) && decide ((inOrder n few).Pairwise fun a b => codeN a < codeN b)
theorem small_sets : ((List.range 6).all fun i => (List.range (i + 3)).all fun few => smallOk (i + 2) few) = true := by decide +kernel
theorem small_lens : ((List.range 6).all fun i => (List.range (i + 3)).all fun few => decide (C (i + 2) few < 64) && (allS (i + 2) few).all fun s => decide (s.length = few) && s.all fun m => decide (m < 8)) = true := by decide +kernel
theorem gen_lens : ((List.range 6).all fun i => (List.range (i + 3)).all fun few => (List.range (i + 3)).all fun t => decide ((allG few t).length ≤ 200) && (allG few t).all fun s => decide (s.length ≤ 8)) = true := by decide +kernel
theorem small_sets' {n k : Nat} (h2 : 2 ≤ n) (h7 : n ≤ 7) (hk : k ≤ n) : (allS n k).Perm (inOrder n k) ∧ (inOrder n k).Pairwise (fun a b => codeN a < codeN b) ∧ C n k < 64 ∧ ∀ s ∈ allS n k, s.length = k ∧ ∀ m ∈ s, m < 8 := by
  obtain ⟨i, rfl⟩ : ∃ i, n = i + 2 := ⟨n - 2, by omega⟩
  have h1 := List.all_eq_true.mp (List.all_eq_true.mp small_sets i (List.mem_range.mpr (by omega))) k (List.mem_range.mpr (by omega))
  unfold smallOk at h1
  rw [Bool.and_eq_true] at h1
  have h3 := List.all_eq_true.mp (List.all_eq_true.mp small_lens i (List.mem_range.mpr (by omega))) k (List.mem_range.mpr (by omega))
  rw [Bool.and_eq_true] at h3
  refine ⟨List.isPerm_iff.mp h1.1, of_decide_eq_true h1.2, of_decide_eq_true h3.1, fun s hs => ?_⟩
  have h4 := List.all_eq_true.mp h3.2 s hs
  rw [Bool.and_eq_true] at h4
  exact ⟨of_decide_eq_true h4.1, fun m hm => of_decide_eq_true (List.all_eq_true.mp h4.2 m hm)⟩
theorem gen_lens' {n k t : Nat} (h2 : 2 ≤ n) (h7 : n ≤ 7) (hk : k ≤ n) (ht : t ≤ n) : (allG k t).length ≤ 200 ∧ ∀ s ∈ allG k t, s.length ≤ 8 := by
  obtain ⟨i, rfl⟩ : ∃ i, n = i + 2 := ⟨n - 2, by omega⟩
  have h1 := List.all_eq_true.mp (List.all_eq_true.mp (List.all_eq_true.mp gen_lens i (List.mem_range.mpr (by omega))) k (List.mem_range.mpr (by omega))) t (List.mem_range.mpr (by omega))
  rw [Bool.and_eq_true] at h1
  exact ⟨of_decide_eq_true h1.1, fun s hs => of_decide_eq_true (List.all_eq_true.mp h1.2 s hs)⟩
theorem code_inj {L : List (List Nat)} (h : L.Pairwise fun a b => codeN a < codeN b) {a b : List Nat} (ha : a ∈ L) (hb : b ∈ L) (e : codeN a = codeN b) : a = b := by
  induction L with
  | nil => cases ha
  | cons x r ih =>
    obtain ⟨h1, h2⟩ := List.pairwise_cons.mp h
    rcases List.mem_cons.mp ha with e1 | ha2
    · rcases List.mem_cons.mp hb with e2 | hb2
      · rw [e1, e2]
      · have := h1 b hb2
        rw [← e1] at this
        omega
    · rcases List.mem_cons.mp hb with e2 | hb2
      · have := h1 a ha2
        rw [← e2] at this
        omega
      · exact ih h2 ha2 hb2
theorem order_unique {L M : List (List Nat)} (hM : M.Pairwise fun a b => codeN a < codeN b) (hL : L.Pairwise fun a b => codeN a ≤ codeN b) (h : L.Perm M) : L = M := by
  induction M generalizing L with
  | nil => exact List.perm_nil.mp h
  | cons x r ih =>
    cases L with
    | nil => exact absurd h.length_eq (by simp)
    | cons y t =>
      obtain ⟨h1, h2⟩ := List.pairwise_cons.mp hM
      obtain ⟨h3, h4⟩ := List.pairwise_cons.mp hL
      have hyx : y = x := by
        have hy : y ∈ x :: r := h.mem_iff.mp List.mem_cons_self
        have hx : x ∈ y :: t := h.mem_iff.mpr List.mem_cons_self
        rcases List.mem_cons.mp hy with e | hy
        · exact e
        · rcases List.mem_cons.mp hx with e | hx
          · exact e.symm
          · have h5 := h1 y hy
            have h6 := h3 x hx
            omega
      subst hyx
      rw [ih h2 h4 h.cons_inv]
end Ef
namespace Ef
open PySem PySem.Spec PyProof.Rows L2
/-! ### a call whose arguments are all given by name -/
def permL {α : Type} (perm : List Nat) (n : Nat) (us ws : List α) : List α :=
  if us.length = 0 ∧ ws.length = n then perm.filterMap (fun i => ws[i]?) else []
theorem paired_len {α β : Type} {F : α → β → Prop} : ∀ {l : List α} {m : List β}, Paired F l m → l.length = m.length
  | _, _, .nil => rfl
  | _, _, .cons _ t => congrArg (· + 1) (paired_len t)
theorem paired_at {α β : Type} {F : α → β → Prop} : ∀ {l : List α} {m : List β}, Paired F l m → ∀ i : Nat, (l[i]? = none ∧ m[i]? = none) ∨ ∃ x y, l[i]? = some x ∧ m[i]? = some y ∧ F x y
  | _, _, .nil, _ => .inl ⟨rfl, rfl⟩
  | _, _, .cons h _, 0 => .inr ⟨_, _, rfl, rfl, h⟩
  | _, _, .cons _ t, i + 1 => by
    rw [List.getElem?_cons_succ, List.getElem?_cons_succ]
    exact paired_at t i
theorem paired_pick {α β : Type} {F : α → β → Prop} {l : List α} {m : List β} (h : Paired F l m) : ∀ perm : List Nat, Paired F (perm.filterMap (fun i => l[i]?)) (perm.filterMap (fun i => m[i]?))
  | [] => .nil
  | i :: r => by
    rcases paired_at h i with ⟨e1, e2⟩ | ⟨x, y, e1, e2, f⟩
    · rw [List.filterMap_cons_none e1, List.filterMap_cons_none e2]
      exact paired_pick h r
    · rw [List.filterMap_cons_some e1, List.filterMap_cons_some e2]
      exact .cons f (paired_pick h r)
theorem permL_rel {perm : List Nat} {n : Nat} {vs zs : List V} {us ws : List Value} (r : Vals vs us) (rz : Vals zs ws) : Vals (permL perm n vs zs) (permL perm n us ws) := by
  unfold permL
  rw [paired_len r, paired_len rz]
  by_cases h : us.length = 0 ∧ ws.length = n
  · rw [if_pos h, if_pos h]
    exact paired_pick rz perm
  · rw [if_neg h, if_neg h]
    exact .nil
theorem kb_of {K : PySem.W.Frag} {fd : FuncData} {ps ks : List Str} {perm : List Nat} {n : Nat} (h0 : ps ≠ [])
    (h : ∀ ws : List Value, ws.length = n → bindArgs fd ⟨[], ks.zip ws⟩ = pure (ps.zip (perm.filterMap (fun i => ws[i]?)))) :
    KBinds K fd ps ks (permL perm n) (permL perm n) := by
  refine ⟨fun s us ws _ hl => ?_, fun r rz => permL_rel r rz⟩
  unfold permL at hl ⊢
  by_cases c : us.length = 0 ∧ ws.length = n
  · rw [if_pos c]
    have e : us = [] := List.length_eq_zero_iff.mp c.1
    subst e
    exact .of_eq (h ws c.2)
  · rw [if_neg c] at hl
    exact absurd (List.length_eq_zero_iff.mp hl.symm) h0
theorem Fun_kb {K : PySem.W.Frag} {x qual : Str} {st : Stmt} {f : Addr} {fd : FuncData} {ps ks : List Str} (perm : List Nat) (n : Nat) (F : Fun K x qual st f fd) (h0 : ps ≠ [])
    (h : ∀ (kV doc pm : Value) (an : Option Addr) (cdv ct : Value) (ws : List Value), ws.length = n → bindArgs (PySem.W.fnOf x qual (defArgs st) (defBody st) (defScope st) .none kV doc pm an cdv ct) ⟨[], ks.zip ws⟩ = pure (ps.zip (perm.filterMap (fun i => ws[i]?)))) :
    KBinds K fd ps ks (permL perm n) (permL perm n) := by
  obtain ⟨oc, od, kV, doc, pm, an, cdv, ct, osl, rfl, lk, hcd⟩ := F.ex
  exact kb_of h0 (h kV doc pm an cdv ct)
section
variable {X : Cx} {CX : CXT} {k : Nat} {f : Addr} {fd : FuncData} {ps ks : List Str} {sp : Sp} {E : XK} {x : Str} {p pos : Pos} {kws : List Keyword} {tk : TA}
variable {g : List Value → List Value → List Value} {gV : List V → List V → List V}
/-- f(k = v, ..) -/
theorem pe_kw (F : FnOk X.prog X.w X.K X.mg X.base CX k f fd ps sp) (hr : Room k X.A) (hg : Gl X x) (hm : X.mg x = some (.ref f))
    (hk : PySem.W.keepIn X.K (.ref f) = true) (hb : KBinds X.K fd ps ks g gV) (hx : Passes CX X E) (hkw : PK X kws tk)
    (a1 : (backToKw pos (keywordEach kws X.env)).all (fun z => z.1.isSome) = true := by rfl)
    (a2 : (backToKw pos (keywordEach kws X.env)).filterMap (fun z => z.1) = ks := by rfl)
    (a3 : (x == ("__debug__" : Str)) = false := by decide)
    (a4 : ((backTo pos (starEach [] X.env)).any (fun z => z.1) || (backToKw pos (keywordEach kws X.env)).any (fun z => z.1.isNone)) = false := by rfl) :
    PE X (.Call (.Name x p) [] kws pos) (tCallK sp gV E tNil tk) := by
  refine ⟨fun pins s σ H Q I h => wpAny_Call_Name_kw (ld_glob I hg hm ?_ a3)⟩
  refine PySem.W.callWith_KW0 (h₀ := X.base) I.ok.mod.kin hk a1 ?_ a4
  refine thn (hkw.run pos pins s σ H _ I h) fun ws s2 z => ?_
  obtain ⟨zs, H2, I2, rz, q2⟩ := z
  refine ⟨I2.kIn, ?_⟩
  rw [a2]
  exact run_fnk (us := []) (vs := []) F hr hb hx I2 .nil rz q2
end
/-! ### heaps -/
theorem same_new {H : Hp} {p : Addr} {o : HO} (h : H p = none) : Same H (upd H p o) := fun b x e => by
  rw [upd_ne (ne_of_none e h)]
  exact e
theorem keep_upd {H H1 : Hp} {p : Addr} {o : HO} (s : Same H H1) (h : H p = none) : Same H (upd H1 p o) := fun b x e => by
  rw [upd_ne (ne_of_none e h)]
  exact s b x e
/-- all but what stands at p is as it was -/
def But (p : Addr) (H H' : Hp) : Prop := ∀ b o, b ≠ p → H b = some o → H' b = some o
theorem But.refl (p : Addr) (H : Hp) : But p H H := fun _ _ _ e => e
theorem But.trans {p : Addr} {H H1 H2 : Hp} (s : But p H H1) (t : But p H1 H2) : But p H H2 := fun b o n e => t b o n (s b o n e)
theorem But.same {p : Addr} {H H1 H2 : Hp} (s : But p H H1) (t : Same H1 H2) : But p H H2 := fun b o n e => t b o (s b o n e)
theorem But.of {p : Addr} {H H1 : Hp} (t : Same H H1) : But p H H1 := fun b o _ e => t b o e
theorem But.upd {p : Addr} {H H1 : Hp} {o : HO} (s : But p H H1) : But p H (upd H1 p o) := fun b x n e => by
  rw [upd_ne n]
  exact s b x n e
theorem But.to {p : Addr} {H H1 : Hp} (s : But p H H1) (h : H p = none) : Same H H1 := fun b x e => s b x (ne_of_none e h) e
theorem But.seq {K : PySem.W.Frag} {p a : Addr} {H H' : Hp} {xs : List V} (e : But p H H') (n : a ≠ p) (h : SqL K H a xs) : SqL K H' a xs := by
  rcases h with (h | ⟨o, h⟩) | h
  · exact .inl (.inl (e _ _ n h))
  · exact .inl (.inr ⟨o, e _ _ n h⟩)
  · exact .inr h
end Ef
namespace Ef
open PySem PySem.Spec PyProof.Rows L2
/-! ### promises of defs that are called where no repr is under way -/
structure FnG (P : Program) (w : World) (K : PySem.W.Frag) (mg : Str → Option Value) (base : Heap) (CX : CXT) (k : Nat) (f : Addr) (fd : FuncData) (ps : List Str) (sp : Sp) : Prop where
  len : ∀ vs H Q E, sp vs H Q E → vs.length = ps.length
  run : ∀ (A : Around), A.guards = some [] → ∀ (outer : List Env) (s : Shared) (H : Hp) (args : Args) (us : List Value) (vs : List V) (Q : VK) (E : XK),
    Room k A → Env0 P w K mg base A outer s H → BindsTo s fd args (ps.zip us) → Vals vs us → sp vs H Q E →
      codeAny (model P w) A (.call (.ref f) args) (CR CX outer P w H s Q E) s
section
variable {P : Program} {w : World} {K : PySem.W.Frag} {mg : Str → Option Value} {base : Heap} {CX : CXT}
theorem FnG.of {k : Nat} {f : Addr} {fd : FuncData} {ps : List Str} {sp : Sp} (F : FnOk P w K mg base CX k f fd ps sp) : FnG P w K mg base CX k f fd ps sp :=
  ⟨F.len, fun A _ outer s H args us vs Q E => F.run A outer s H args us vs Q E⟩
theorem Fun_okG {x qual : Str} {st : Stmt} {f : Addr} {fd : FuncData} {N ps : List Str} {k : Nat} {sp : Sp} (F : Fun K x qual st f fd) (S : FnScope N ps (defScope st)) (len : ∀ vs H Q E, sp vs H Q E → vs.length = ps.length)
    (bod : ∀ (cdv : Value) (A : Around) (outer : List Env) (s : Shared) (H : Hp) (vs : List V) (Q : VK) (E : XK), A.guards = some [] → Room k (A.deeper (envOfC qual (defScope st) s.heap.objs.size f cdv)) → sp vs H Q E →
      ∃ t, PSs (cxOf CX P w K mg base N qual (defScope st) f cdv A outer s H E) (defBody st) t ∧ t { nx := fun _ H' => Q .non H', rt := Q } (start N vs) H) :
    FnG P w K mg base CX (k + 1) f fd ps sp := by
  obtain ⟨oc, od, kV, doc, pm, an, cdv, ct, osl, rfl, lk, hcd⟩ := F.ex
  refine ⟨len, fun A gd outer s H args us vs Q E room e0 bnd rel wish => ?_⟩
  have kin : K.In s.heap := e0.mod.kin.keeps fun b o z => (e0.bs b o z).1
  have nolim : s.heap.NoLimit := e0.mod.nolimit.keeps fun b o z => (e0.bs b o z).1
  refine codeAny_call_function room.depth (kin _ _ lk) rfl S.co S.gen rfl (PySem.W.codeRec_of kin hcd) (bnd _ _ _ _ ?_)
  refine wpAny_newFunctionEnv_cells S.kind ?_ fun env hev s1 ic => ?_
  · rintro ⟨n, v⟩ hy
    rcases S.par n (List.of_mem_zip hy).1 with z | z
    · exact .inl z
    · exact .inr ⟨z, PySem.W.cellsFrom_some _ _ _ (.inl z)⟩
  · subst hev
    refine ⟨nolim.keeps ic.toInCall.keep, codeAny_func ?_⟩
    obtain ⟨t, pt, rd⟩ := bod cdv A outer s H vs Q E gd (room.deeper _) wish
    have J0 := inv_start (CX := CX) (E := E) S room.hd e0 (len _ _ _ _ wish) rel ic
    refine wpAny_mono (pt.run [] s1 (start N vs) H _ J0 rd) (fun fl s' got => ?_) fun e s' got => got
    cases fl with
    | brk =>
      obtain ⟨_, _, _, z⟩ := got
      exact z.elim
    | cont =>
      obtain ⟨_, _, _, z⟩ := got
      exact z.elim
    | next =>
      obtain ⟨σ', H', J, z⟩ := got
      exact ⟨V.non, H', J.os, J.bare, J.base, J.hok, (rfl : RelV V.non Value.none), z⟩
    | ret u =>
      obtain ⟨v, σ', H', J, rv, z⟩ := got
      exact ⟨v, H', J.os, J.bare, J.base, J.hok, rv, z⟩
end
/-- the same of a def that lets no exception out -/
theorem Fun_ok0 {P : Program} {w : World} {K : PySem.W.Frag} {mg : Str → Option Value} {base : Heap} {x qual : Str} {st : Stmt} {f : Addr} {fd : FuncData} {N ps : List Str} {k : Nat} {sp : Sp} (F : Fun K x qual st f fd) (S : FnScope N ps (defScope st)) (len : ∀ vs H Q E, sp vs H Q E → vs.length = ps.length)
    (bod : ∀ (cdv : Value) (A : Around) (outer : List Env) (s : Shared) (H : Hp) (vs : List V) (Q : VK) (E : XK), A.guards = some [] → Room k (A.deeper (envOfC qual (defScope st) s.heap.objs.size f cdv)) → sp vs H Q E →
      ∃ t, PSs (cxOf CX0 P w K mg base N qual (defScope st) f cdv A outer s H E).nox (defBody st) t ∧ t { nx := fun _ H' => Q .non H', rt := Q } (start N vs) H) :
    FnG P w K mg base CX0 (k + 1) f fd ps sp :=
  Fun_okG F S len fun cdv A outer s H vs Q E gd room wish => by
    obtain ⟨t, pt, rd⟩ := bod cdv A outer s H vs Q E gd room wish
    exact ⟨t, pt.nox, rd⟩
section
variable {X : Cx} {CX : CXT} {k : Nat} {f : Addr} {fd : FuncData} {ps : List Str} {sp : Sp} {E : XK} {x : Str} {p pos : Pos} {e : Expr} {es : List Expr} {t : TA}
theorem run_G {pins : List (Addr × Obj)} {σ : L2.St} {H : Hp} {s : Shared} {Q : VK} {us : List Value} {vs : List V} (F : FnG X.prog X.w X.K X.mg X.base CX k f fd ps sp)
    (gd : X.A.guards = some []) (room : Room k X.A) (bnd : Binds X.K fd ps []) (pass : Passes CX X E) (I : Inv X pins σ H s) (rel : Vals vs us) (wish : sp vs H Q E) :
    wpAny (model X.prog X.w) X.A (call (.ref f) us) (EP X pins σ Q) X.xe s := by
  have hl : (us ++ []).length = ps.length := by
    rw [List.append_nil, ← rel.length]
    exact F.len _ _ _ _ wish
  have b1 := bnd s us I.kIn hl
  rw [List.append_nil] at b1
  refine wpAny_call (codeAny_mono (F.run X.A gd X.stack s H ⟨us, []⟩ us vs Q E room I.env0 b1 rel wish) fun res s' got => ?_)
  cases res with
  | error z => exact pass pins σ H s z s' I got
  | ok fl =>
    cases fl with
    | ret u => exact I.after got
    | next => exact got.elim
    | brk => exact got.elim
    | cont => exact got.elim
/-- f(e, ..) of a def whose promise holds where no repr is under way -/
theorem pe_callG (F : FnG X.prog X.w X.K X.mg X.base CX k f fd ps sp) (gd : X.A.guards = some []) (room : Room k X.A) (hg : Gl X x) (hm : X.mg x = some (.ref f))
    (hk : PySem.W.keepIn X.K (.ref f) = true) (bnd : Binds X.K fd ps []) (pass : Passes CX X E) (ha : PA X (e :: es) t)
    (a1 : (x == ("__debug__" : Str)) = false := by decide) (a2 : starEach (e :: es) X.env = (false, eval e X.env) :: starEach es X.env := by rfl)
    (a3 : (backTo pos (starEach es X.env)).any (fun z => z.1) = false := by rfl) :
    PE X (.Call (.Name x p) (e :: es) [] pos) (tCall sp [] E t) := by
  refine ⟨fun pins s σ H Q I h => wpAny_Call_Name_kw (ld_glob I hg hm ?_ a1)⟩
  refine PySem.W.callWith_K (h₀ := X.base) I.ok.mod.kin hk (thn (ha.run pos pins s σ H _ I h) fun us s1 z => ?_) a2 a3
  obtain ⟨vs, H1, I1, r, q⟩ := z
  rw [List.append_nil] at q
  exact ⟨I1.kIn, run_G F gd room bnd pass I1 r q⟩
end
/-! ### the law's own end, where no repr is under way -/
def scriptObj (vs : List Value) : Obj := { cls := .type "list", data := .seq vs.toArray }
def scriptHp (K : PySem.W.Frag) (a : Addr) (vs : List Value) (ns : List Int) : Hp := fun b => if b = a ∧ K.lookup a = none then some (.frz (scriptObj vs) (.lst (ns.map V.int))) else none
section
variable {K : PySem.W.Frag} {a : Addr} {vs : List Value} {ns : List Int}
theorem scriptHp_only : Only (scriptHp K a vs ns) := fun b => by
  unfold scriptHp
  by_cases c : b = a ∧ K.lookup a = none
  · exact .inr ⟨_, _, if_pos c⟩
  · exact .inl (if_neg c)
theorem scriptHp_some {b : Addr} {u : HO} (h : scriptHp K a vs ns b = some u) : b = a ∧ K.lookup a = none ∧ u = .frz (scriptObj vs) (.lst (ns.map V.int)) := by
  unfold scriptHp at h
  by_cases c : b = a ∧ K.lookup a = none
  · rw [if_pos c] at h
    exact ⟨c.1, c.2, (Option.some.inj h).symm⟩
  · rw [if_neg c] at h
    cases h
theorem scriptHp_none {b : Addr} {o : Obj} {h : Heap} (ha : h.get? a = some (scriptObj vs)) (e : h.get? b = some o) (hd : ∀ its n, o.data ≠ .seq its n) : scriptHp K a vs ns b = none := by
  cases q : scriptHp K a vs ns b with
  | none => rfl
  | some u =>
    obtain ⟨rfl, _, _⟩ := scriptHp_some q
    rw [ha] at e
    cases e
    exact absurd rfl (hd vs.toArray _)
theorem lawG {l : PySem.W.OpenLaw} {n k : Nat} {q : Program} {loose : List Str} {XP : (Str → Option Value) → Heap → Prop} {YP : World → Heap → Prop} {d : DefRec} {K : Params → PySem.W.Frag} {sp : World → Sp} {x : Str}
    (hn : l.most = some n) (hn2 : n ≤ sizeLine) (hdf : d.params.defaults = []) (room : Room k callerA)
    (hY : ∀ (w : World) (h : Heap), YP w h → (K w.params).In h)
    (F : ∀ (w : World) (mg : Str → Option Value) (fa : Addr) (h : Heap), (K w.params).In h → h.Ns mainGlobals mg → mg d.name = some (.ref fa) →
      ∃ fd : FuncData, (∀ (s : Shared) (u : Value), BindsTo s fd ⟨[u], []⟩ [(x, u)]) ∧
        ∀ base : Heap, (K w.params).In base → base.Ns mainGlobals mg → FnG l.prog w (K w.params) mg base CX0 k fa fd [x] (sp w))
    (hsp : ∀ (w : World) (H : Hp) (a : Addr) (ns : List Int), ns.length ≤ n → Only H → SqL (K w.params) H a (ns.map V.int) → sp w [.ref a] H (fun v _ => v = .bl true) fun _ _ _ => False) :
    PySem.W.WalkO q loose XP YP l.row.toRowW d [] (fun f vs => PySem.call f vs) := by
  refine Att.attach_call hn hdf fun w s₀ s₁ mg mb fa o pm cd doc a vs ns G Y ho hd hcd hmg hobj hints hlen hgen => ?_
  have kin := hY w _ Y
  obtain ⟨fd, bnd, FF⟩ := F w mg fa _ kin G.T.g hmg
  have ha : s₁.heap.get? a = some (scriptObj vs) := hobj
  have short : ns.length ≤ sizeLine := Nat.le_trans hlen hn2
  have keep0 : ∀ {b : Addr} {o : Obj}, s₁.heap.get? b = some o → scriptHp (K w.params) a vs ns b = none → (hidT s₁.heap (scriptHp (K w.params) a vs ns)).get? b = some o := fun e z => hidT_get e z
  have nsK : ∀ {b : Addr} {m : Str → Option Value}, s₁.heap.Ns b m → (hidT s₁.heap (scriptHp (K w.params) a vs ns)).Ns b m := by
    rintro b m ⟨o, es, ep, e, dd, r⟩
    exact ⟨o, es, ep, keep0 e (scriptHp_none ha e fun its n z => by rw [dd] at z; cases z), dd, r⟩
  have kinB : (K w.params).In (hidT s₁.heap (scriptHp (K w.params) a vs ns)) := fun b o e => keep0 (kin b o e) (by
    cases z : scriptHp (K w.params) a vs ns b with
    | none => rfl
    | some u =>
      obtain ⟨rfl, z2, _⟩ := scriptHp_some z
      rw [z2] at e
      cases e)
  have hM : Mod (K w.params) mg (hidT s₁.heap (scriptHp (K w.params) a vs ns)) := by
    obtain ⟨mc, h1, h2⟩ := G.T.nolimit
    exact ⟨kinB, nsK G.T.g, ⟨mb, nsK G.T.b, G.T.builtins⟩, ⟨mc, nsK h1, h2⟩⟩
  have hok : HOk l.prog w (scriptHp (K w.params) a vs ns) s₁.heap := fun b u z => by
    obtain ⟨rfl, _, rfl⟩ := scriptHp_some z
    exact ⟨ha, by rw [List.length_map]; exact short, vs, _, vals_ints hints, ha⟩
  have hS : SqL (K w.params) (scriptHp (K w.params) a vs ns) a (ns.map V.int) := by
    cases hk : (K w.params).lookup a with
    | none => exact .inl (.inr ⟨scriptObj vs, if_pos ⟨rfl, hk⟩⟩)
    | some o =>
      have e := kin a o hk
      rw [ha] at e
      obtain rfl := Option.some.inj e
      exact .inr ⟨_, vs.toArray, _, hk, rfl, rfl, rfl, by rw [List.size_toArray, hints.length]; exact short, by simpa using vals_ints hints⟩
  have e0 : Env0 l.prog w (K w.params) mg (hidT s₁.heap (scriptHp (K w.params) a vs ns)) callerA [] s₁ (scriptHp (K w.params) a vs ns) :=
    ⟨rfl, hM, fun b o e => of_hidT e, Nat.le_of_eq (hidT_size _ _), trivial, fun b z => absurd (show b ∈ ([] : List Addr) from z) (by simp), hok, .of_eq hgen⟩
  refine codeAny_mono ((FF _ kinB (nsK G.T.g)).run callerA rfl [] s₁ _ ⟨[.ref a], []⟩ [.ref a] [.ref a] _ _ room e0 (bnd s₁ (.ref a)) (.cons rfl .nil) (hsp w _ a ns hlen scriptHp_only hS)) fun r s' got => ?_
  cases r with
  | error e => exact got.elim
  | ok fl =>
    cases fl with
    | next => exact got.elim
    | brk => exact got.elim
    | cont => exact got.elim
    | ret u =>
      obtain ⟨v, H', os, bare, un, hok', rv, z⟩ := got
      obtain rfl : v = .bl true := z
      obtain rfl : u = Value.bool true := rv
      refine ⟨rfl, OldK.of_keep fun b o e => ?_, os, bare⟩
      cases z : scriptHp (K w.params) a vs ns b with
      | none => exact un.keep b o e z (fun y => absurd (show b ∈ ([] : List Addr) from y) (by simp)) (by simp)
      | some u =>
        obtain ⟨_, _, rfl⟩ := scriptHp_some z
        have z2 := un.frzs b _ _ z
        obtain ⟨e1, _⟩ := hok b _ z
        obtain ⟨e2, _⟩ := hok' b _ z2
        rw [e] at e1
        obtain rfl := Option.some.inj e1
        exact e2
end
/-! ### repr of data -/
theorem Dp_ref {K : PySem.W.Frag} {H : Hp} {v : V} {d : PyData} (h : Dp K H v d) : (∃ a, v = .ref a) ∨ (v = .non ∧ d = .none) ∨ (∃ b, v = .bl b ∧ d = .bool b) ∨ (∃ i, v = .int i ∧ d = .int i) ∨ ∃ x, v = .str x ∧ d = .str x := by
  cases h with
  | non => exact .inr (.inl ⟨rfl, rfl⟩)
  | bl b => exact .inr (.inr (.inl ⟨b, rfl, rfl⟩))
  | int i => exact .inr (.inr (.inr (.inl ⟨i, rfl, rfl⟩)))
  | str x => exact .inr (.inr (.inr (.inr ⟨x, rfl, rfl⟩)))
  | lst _ _ => exact .inl ⟨_, rfl⟩
  | tup _ _ => exact .inl ⟨_, rfl⟩
/-- data that can be shown: not deeper than dp, not heavier than wt -/
structure Sh (dp wt : Nat) (d : PyData) : Prop where
  can : d.canLay0 = true
  dep : d.depth ≤ dp
  shw : d.showable = true
  lvs : d.leavesShort 200 = true
  wgt : d.weight ≤ wt
structure ShAll (dp wt : Nat) (ds : List PyData) : Prop where
  can : PyData.canLayAll0 ds = true
  dep : PyData.depthAll ds ≤ dp
  shw : PyData.showableAll ds = true
  lvs : PyData.leavesShortAll 200 ds = true
  wgt : PyData.weightAll ds ≤ wt
theorem Sh.mono {dp wt dp' wt' : Nat} {d : PyData} (h : Sh dp wt d) (h1 : dp ≤ dp') (h2 : wt ≤ wt') : Sh dp' wt' d := ⟨h.can, Nat.le_trans h.dep h1, h.shw, h.lvs, Nat.le_trans h.wgt h2⟩
theorem ShAll.mono {dp wt dp' wt' : Nat} {ds : List PyData} (h : ShAll dp wt ds) (h1 : dp ≤ dp') (h2 : wt ≤ wt') : ShAll dp' wt' ds := ⟨h.can, Nat.le_trans h.dep h1, h.shw, h.lvs, Nat.le_trans h.wgt h2⟩
theorem Sh.none : Sh 0 0 .none := ⟨rfl, Nat.le_refl _, rfl, rfl, Nat.le_refl _⟩
theorem Sh.bool (b : Bool) : Sh 0 0 (.bool b) := ⟨rfl, Nat.le_refl _, rfl, rfl, Nat.le_refl _⟩
theorem Sh.int {b : Nat} (h0 : 0 < b) (h6 : b ≤ 600) {i : Int} (h : i.natAbs < 2 ^ b) : Sh 0 b (.int i) := by
  have l2 := PySem.Flt.log2_lt_of h0 h
  refine ⟨rfl, Nat.le_refl _, decide_eq_true (by omega), decide_eq_true ?_, ?_⟩
  · have h1 : i.natAbs < 10 ^ 199 := Nat.lt_of_lt_of_le h (Nat.le_trans (Nat.pow_le_pow_right (by decide) h6) (by decide +kernel))
    have e := int_text_length_le10 (k := 199) (by decide) h1
    show (Str.ofString (toString i)).length ≤ 200
    rw [PySem.ofString_length]
    exact e
  · show (if i == 0 then 0 else i.natAbs.log2 + 1) ≤ b
    split <;> omega
theorem Sh.tup {dp wt : Nat} {ds : List PyData} (h : ShAll dp wt ds) : Sh (dp + 1) wt (.tuple ds) := ⟨h.can, Nat.add_le_add_right h.dep 1, h.shw, h.lvs, h.wgt⟩
theorem Sh.lst {dp wt : Nat} {ds : List PyData} (h : ShAll dp wt ds) : Sh (dp + 1) wt (.list ds) := ⟨h.can, Nat.add_le_add_right h.dep 1, h.shw, h.lvs, h.wgt⟩
theorem ShAll.nil : ShAll 0 0 [] := ⟨rfl, Nat.le_refl _, rfl, rfl, Nat.le_refl _⟩
theorem ShAll.cons {dp wt wt' : Nat} {d : PyData} {ds : List PyData} (h : Sh dp wt d) (t : ShAll dp wt' ds) : ShAll dp (wt + 1 + wt') (d :: ds) := by
  refine ⟨?_, Nat.max_le.mpr ⟨h.dep, t.dep⟩, ?_, ?_, ?_⟩
  · show (d.canLay0 && PyData.canLayAll0 ds) = true
    rw [h.can, t.can]
    rfl
  · show (d.showable && PyData.showableAll ds) = true
    rw [h.shw, t.shw]
    rfl
  · show (d.leavesShort 200 && PyData.leavesShortAll 200 ds) = true
    rw [h.lvs, t.lvs]
    rfl
  · show d.weight + 1 + PyData.weightAll ds ≤ wt + 1 + wt'
    have h1 := h.wgt
    have h2 := t.wgt
    omega
theorem ShAll.ints {b : Nat} (h0 : 0 < b) (h6 : b ≤ 600) : ∀ {ns : List Int}, (∀ x ∈ ns, x.natAbs < 2 ^ b) → ShAll 0 ((b + 1) * ns.length) (ns.map PyData.int)
  | [], _ => ShAll.nil
  | x :: r, h => by
    have h1 := ShAll.cons (Sh.int h0 h6 (h x List.mem_cons_self)) (ShAll.ints h0 h6 fun y hy => h y (List.mem_cons_of_mem _ hy))
    exact h1.mono (Nat.le_refl _) (by rw [List.length_cons, Nat.mul_succ]; omega)
theorem Sh.shaped {dp wt : Nat} {d : PyData} (h : Sh dp wt d) (h1 : dp ≤ 64) : SeqAt.shaped d = true := by
  unfold SeqAt.shaped
  rw [h.can]
  exact decide_eq_true (Nat.le_trans h.dep h1)
theorem Sh.fits {dp wt : Nat} {d : PyData} (h : Sh dp wt d) (h1 : wt ≤ 80000) : d.shown.length ≤ sizeLine := by
  have h2 := PyData.shown_le 200 (by decide) d h.lvs
  have h3 := h.wgt
  have h4 : (200 + 2) * d.weight ≤ 202 * 80000 := Nat.mul_le_mul (by omega) (by omega)
  have h5 : sizeLine = 16777216 := by decide
  omega
theorem dp_ints {K : PySem.W.Frag} {H : Hp} : ∀ ns : List Int, DpAll K H (ns.map V.int) (ns.map PyData.int)
  | [] => .nil
  | n :: r => .cons (.int n) (dp_ints r)
theorem eqvAll_ints : ∀ ns : List Int, PyData.eqvAll (ns.map PyData.int) (ns.map PyData.int) = true
  | [] => rfl
  | n :: r => by
    show (PyData.eqv (.int n) (.int n) && PyData.eqvAll (r.map PyData.int) (r.map PyData.int)) = true
    rw [eqvAll_ints r]
    show ((n == n) && true) = true
    rw [beq_self_eq_true]
    rfl
section
variable {X : Cx}
/-- repr(x), x data: its text -/
theorem call_reprD (gd : X.A.guards = some []) (hu : X.A.units + 66 < cLine) : CallR X (.builtin "repr") (fun xs H Q => ∃ v d, xs = [v] ∧ Dp X.K H v d ∧ Sh 60 80000 d ∧ Q (.str d.shown) H) := by
  intro pins s σ H xs us Q I r h
  obtain ⟨v, d, rfl, hD, hd, q⟩ := h
  have hsh := hd.shaped (by decide)
  have hsz := hd.fits (by decide)
  obtain ⟨u, rfl, ru⟩ := vals1 r
  rcases Dp_ref hD with ⟨a, rfl⟩ | ⟨rfl, rfl⟩ | ⟨b, rfl, rfl⟩ | ⟨i, rfl, rfl⟩ | ⟨x, rfl, rfl⟩
  · obtain rfl : u = Value.ref a := ru
    obtain ⟨as, rd⟩ := Dp.reads I d _ _ hD rfl
    have hdp := hd.dep
    refine repr_of_reads' rd hd.shw (PyData.noDict_hsm (PyData.hasDict_of_canLay d hd.can)) gd (by omega) (fun _ _ e => e) (fun h' u tk hk => ?_) hsz
    exact ⟨.str _, H, I.kept hk, ⟨u, rfl⟩, q⟩
  · obtain rfl : u = Value.none := ru
    exact P.repr_of_none ⟨.str _, H, I.tok _, ⟨_, rfl⟩, q⟩
  · obtain rfl : u = Value.bool b := ru
    exact P.repr_of_bool ⟨.str _, H, I.tok _, ⟨_, rfl⟩, q⟩
  · obtain ⟨t, rfl⟩ := ru
    exact P.repr_of_int (of_decide_eq_true hd.shw) ⟨.str _, H, I.tok _, ⟨_, rfl⟩, q⟩
  · obtain ⟨t, rfl⟩ := ru
    exact P.repr_of_str ⟨.str _, H, I.tok _, ⟨_, rfl⟩, q⟩ hsz
/-- a ** b of greater numbers -/
theorem op_powB : OpR X (binaryOp .Pow) (rI (fun i j => 0 ≤ j ∧ (Builtin.Int.intBits i : Int) * j ≤ 2 ^ 27) fun i j => .int (i ^ j.toNat)) := opI fun _ _ _ _ _ _ _ hc q => pow_int hc.1 hc.2 q
/-- set(t), t a tuple of ints -/
theorem cr_setT (hc : X.calm = true) : CallR X (.type "set") (fun xs H Q => ∃ (l : Addr) (ns : List Int), xs = [.ref l] ∧ SqT X.K H l (ns.map V.int) ∧ ns.length ≤ 1000 ∧
    ∀ (p : Addr) (c : Nat), H p = none → Q (.ref p) (upd H p (SetO X.w p (fun j => decide (j ∈ ns)) c))) := by
  intro pins s σ H xs us Q I r h
  obtain ⟨l, ns, rfl, hq, hl, q⟩ := h
  obtain ⟨u, rfl, ru⟩ := vals1 r
  obtain rfl : u = Value.ref l := ru
  obtain ⟨its, rv, pt, hz⟩ := I.tuple hq
  refine call_set_tupI ns (I.ok.hd hc) (show s.heap.IsTuple l its.toArray from pt) (ints_of_vals rv) (by unfold scanBound; omega) fun h' tk c R1 hcn k => ?_
  exact ⟨.ref _, _, I.laid (t' := tk) k (Nat.le_refl _) (setO_new R1), rfl, q _ c (I.hok.fresh (Nat.le_refl _))⟩
end

/-! ### the same rules with the written part as a letter (for comprehensions) -/
section
variable {X : Cx} (K : PySem.W.Frag)
theorem ix_listK (h : X.K = K := by rfl) : IxR X (rIxL K) := h ▸ ix_list
theorem ix_tupK (h : X.K = K := by rfl) : IxR X (rIxT K) := h ▸ ix_tup
theorem op_inK (h : X.K = K := by rfl) : OpR X (compareOp .In) (rIn K false) := h ▸ op_in_seq
theorem op_notInK (h : X.K = K := by rfl) : OpR X (compareOp .NotIn) (rIn K true) := h ▸ op_notIn_seq
def rLenK (K : PySem.W.Frag) : List V → Hp → VK → Prop := fun xs H Q => ∃ p ys, xs = [.ref p] ∧ (SqL K H p ys ∨ SqT K H p ys) ∧ Q (.int ys.length) H
theorem call_lenK (h : X.K = K := by rfl) : CallR X (.builtin "len") (rLenK K) := h ▸ call_len_seq
def rReprK (K : PySem.W.Frag) : List V → Hp → VK → Prop := fun xs H Q => ∃ v d, xs = [v] ∧ Dp K H v d ∧ Sh 60 80000 d ∧ Q (.str d.shown) H
theorem call_reprK (gd : X.A.guards = some []) (hu : X.A.units + 66 < cLine) (h : X.K = K := by rfl) : CallR X (.builtin "repr") (rReprK K) := h ▸ call_reprD gd hu
theorem call_isiK1 (h : X.K = K := by rfl) : CallR X (.builtin "isinstance") (rIsi K) := h ▸ call_isi
def rTupleK (K : PySem.W.Frag) : List V → Hp → VK → Prop := fun xs H Q => ∃ p ys, xs = [.ref p] ∧ ((SqL K H p ys ∧ ∀ l, H l = none → Q (.ref l) (upd H l (.tup ys))) ∨ (SqT K H p ys ∧ Q (.ref p) H))
theorem call_tupleK (h : X.K = K := by rfl) : CallR X (.type "tuple") (rTupleK K) := h ▸ call_tuple_of
def rListK (K : PySem.W.Frag) : List V → Hp → VK → Prop := fun xs H Q => ∃ p ys, xs = [.ref p] ∧ (SqL K H p ys ∨ SqT K H p ys) ∧ ∀ l, H l = none → Q (.ref l) (upd H l (.lst ys))
theorem call_listK (h : X.K = K := by rfl) : CallR X (.type "list") (rListK K) := h ▸ call_list_of
theorem op_eqDK (hu : X.A.units + 64 < cLine) (h : X.K = K := by rfl) : OpR X (compareOp .Eq) (rEqD K) := h ▸ op_eqD hu
theorem op_neDK (hu : X.A.units + 64 < cLine) (h : X.K = K := by rfl) : OpR X (compareOp .NotEq) (rNeD K) := h ▸ op_neD hu
end
end Ef
namespace Ef
open PySem PySem.Spec PyProof.Rows L2
/-! ### tuples: sums, parts, the other way round -/
theorem Same.seqT {K : PySem.W.Frag} {H H' : Hp} {a : Addr} {xs : List V} (e : Same H H') (h : SqT K H a xs) : SqT K H' a xs := by
  rcases h with (h | ⟨o, h⟩) | h
  · exact .inl (.inl (e _ _ h))
  · exact .inl (.inr ⟨o, e _ _ h⟩)
  · exact .inr h
theorem But.seqT {K : PySem.W.Frag} {p a : Addr} {H H' : Hp} {xs : List V} (e : But p H H') (n : ∀ o, H p = some o → a = p → False) (h : SqT K H a xs) : SqT K H' a xs := by
  rcases h with (h | ⟨o, h⟩) | h
  · exact .inl (.inl (e _ _ (fun z => n _ (z ▸ h) z) h))
  · exact .inl (.inr ⟨o, e _ _ (fun z => n _ (z ▸ h) z) h⟩)
  · exact .inr h
/-- t + u -/
def rCatS (K : PySem.W.Frag) : R2 := fun x y H Q => ∃ a b xs ys, x = .ref a ∧ y = .ref b ∧ SqT K H a xs ∧ SqT K H b ys ∧ xs.length + ys.length ≤ sizeLine ∧ ∀ p H', Same H H' → SqT K H' p (xs ++ ys) → Q (.ref p) H'
/-- t[lo:hi] -/
def rSlS (K : PySem.W.Frag) : V → Option Int → Option Int → Hp → VK → Prop := fun x lo hi H Q => ∃ a xs, x = .ref a ∧ SqT K H a xs ∧ ∀ p H', Same H H' → SqT K H' p (cutV xs lo hi) → Q (.ref p) H'
theorem cut_whole {xs : List V} {lo hi : Option Int} (h : HT.sIx xs.length 0 lo = 0 ∧ HT.sIx xs.length xs.length hi = xs.length) : cutV xs lo hi = xs := by
  unfold cutV
  rw [h.1, h.2]
  show (xs.drop 0).take (xs.length - 0) = xs
  rw [List.drop_zero, Nat.sub_zero]
  exact List.take_length
section
variable {X : Cx} (K : PySem.W.Frag)
theorem op_catS (h : X.K = K := by rfl) : OpR X (binaryOp .Add) (rCatS K) := by
  subst h
  intro pins s σ H x y v u Q I rx ry h
  obtain ⟨a, b, xs, ys, rfl, rfl, ha, hb, hz, q⟩ := h
  refine op_catA pins s σ H _ _ v u Q I rx ry ⟨a, b, xs, ys, rfl, rfl, ha, hb, hz, fun z => ?_, fun _ z => ?_, fun _ _ p np => ?_⟩
  · subst z
    exact q b H (Same.refl H) hb
  · subst z
    refine q a H (Same.refl H) ?_
    rw [List.append_nil]
    exact ha
  · exact q p _ (same_new np) (SqT.of upd_same)
theorem sl_tupS (h : X.K = K := by rfl) : SlR X (rSlS K) := by
  subst h
  intro pins s σ H x v vl vu lo hi sl Q I rx hs pl pu h
  obtain ⟨a, xs, rfl, hx, q⟩ := h
  refine sl_tupA pins s σ H _ v vl vu lo hi sl Q I rx hs pl pu ⟨a, xs, rfl, hx, fun z => ?_, fun _ p np => ?_⟩
  · refine q a H (Same.refl H) ?_
    rw [cut_whole z]
    exact hx
  · exact q p _ (same_new np) (SqT.of upd_same)
end
theorem fm_congr {α β : Type} {f g : α → Option β} : ∀ l : List α, (∀ x ∈ l, f x = g x) → l.filterMap f = l.filterMap g
  | [], _ => rfl
  | x :: r, h => by
    have h1 := h x List.mem_cons_self
    have h2 := fm_congr r fun y hy => h y (List.mem_cons_of_mem _ hy)
    cases e : f x with
    | none => rw [List.filterMap_cons_none e, List.filterMap_cons_none (h1 ▸ e), h2]
    | some b => rw [List.filterMap_cons_some e, List.filterMap_cons_some (h1 ▸ e), h2]
theorem range_pick {α : Type} : ∀ (n : Nat) (ys : List α), ys.length = n → (List.range n).filterMap (fun m => ys[m]?) = ys
  | 0, ys, h => by
    rw [List.length_eq_zero_iff.mp h]
    rfl
  | n + 1, ys, h => by
    have hne : ys ≠ [] := fun z => by
      rw [z] at h
      cases h
    have hl : ys.dropLast.length = n := by
      rw [List.length_dropLast]
      omega
    have e : ys = ys.dropLast ++ [ys.getLast hne] := (List.dropLast_concat_getLast hne).symm
    rw [List.range_succ, List.filterMap_append]
    have e1 : (List.range n).filterMap (fun m => ys[m]?) = ys.dropLast := by
      have e3 : (List.range n).filterMap (fun m => ys[m]?) = (List.range n).filterMap (fun m => ys.dropLast[m]?) := by
        refine fm_congr _ fun m hm => ?_
        have hm' : m < ys.dropLast.length := by
          rw [hl]
          exact List.mem_range.mp hm
        have e4 : (ys.dropLast ++ [ys.getLast hne])[m]? = ys.dropLast[m]? := List.getElem?_append_left hm'
        rw [← e4, List.dropLast_concat_getLast hne]
      rw [e3]
      exact range_pick n ys.dropLast hl
    have e2 : [n].filterMap (fun m => ys[m]?) = [ys.getLast hne] := by
      have : ys[n]? = some (ys.getLast hne) := by
        rw [List.getLast_eq_getElem hne, ← List.getElem?_eq_getElem]
        congr 1
        omega
      rw [List.filterMap_cons_some this]
      rfl
    rw [e1, e2]
    exact e.symm
theorem pick_back (xs : Array Value) : ((List.range xs.size).filterMap fun (m : Nat) => xs[(((xs.size : Int) - 1) + (m : Int) * (-1)).toNat]?).toArray = xs.toList.reverse.toArray := by
  congr 1
  have h : xs.toList.reverse.length = xs.size := by
    rw [List.length_reverse, Array.length_toList]
  rw [← range_pick xs.size xs.toList.reverse h]
  refine fm_congr _ fun m hm => ?_
  have hm' : m < xs.size := List.mem_range.mp hm
  have e : (((xs.size : Int) - 1) + (m : Int) * (-1)).toNat = xs.size - 1 - m := by omega
  rw [e, List.getElem?_reverse (by rw [Array.length_toList]; exact hm'), Array.length_toList, Array.getElem?_toList]
section
variable {prog : Program} {w : World} {A : Around} {E : Value → Shared → Prop} {s : Shared}
theorem tuple_back {t sl : Addr} {items : Array Value} {vl vu vs : Value} {Q : Value → Shared → Prop} (ht : IsTup s.heap t items) (hs : s.heap.IsSliceOf sl vl vu vs) (pl : PySem.IsPart vl none) (pu : PySem.IsPart vu none) (ps : PySem.IsPart vs (some (-1)))
    (h : Q (.ref s.heap.objs.size) { s with heap := s.heap.push { cls := .type "tuple", data := .seq items.toList.reverse.toArray } })
    (hsz : items.size ≤ sizeLine) : wpAny (model prog w) A (getItem (.ref t) (.ref sl)) Q E s := by
  have hfit : sizeOk (.seq items.toList.reverse.toArray) := by
    show items.toList.reverse.toArray.size ≤ sizeLine
    rw [List.size_toArray, List.length_reverse, Array.length_toList]
    exact hsz
  obtain ⟨os, hos, hcs, hds⟩ := id hs
  have tys : s.TypeIs (.ref sl) "slice" := ⟨os, hos, hcs⟩
  unfold getItem
  try with_reducible refine wpAny_holding ?_
  first | refine wpAny_bind (wpAny_pure ?_) | skip
  refine wpAny_bind (wpAny_sequenceKey ht.typeIs (by decide) ?_)
  refine wpAny_bind (wpAny_callSpecial?_slot (name := Str.ofString "__getitem__") ht.typeIs PyProof.Rows.slot_tuple_getitem
    (wpAny_call_entry PyProof.Rows.slot_tuple_getitem ht.typeIs PyProof.Rows.entry_tuple_getitem ?_ (PyProof.Rows.args_tuple_getitem _ _)))
  show wpAny _ _ (Builtin.Tuple.tupleItemsOf (.ref t) >>= _) _ _ s
  refine wpAny_bind (PyProof.Rows.tupleItemsOf_ ht ?_)
  refine wpAny_bind (wpAny_typeOf tys ?_)
  rw [if_pos (by decide)]
  have look : ∀ {B : Around} {E : Value → Shared → Prop} {R : Int × Int × Nat → Shared → Prop}, R (((items.size : Int) - 1), -1, items.size) s → wpAny (model prog w) B (Builtin.Slice.sliceApplied (.ref sl) (pure (items.size : Int))) R E s := fun {B E R} hR => by
    unfold Builtin.Slice.sliceApplied Builtin.Slice.sliceFields
    refine wpAny_bind (wpAny_bind (wpAny_field hos hds (x := vl) rfl (wpAny_bind (wpAny_field hos hds (x := vu) rfl (wpAny_bind (wpAny_field hos hds (x := vs) rfl (wpAny_pure ?_)))))))
    refine wpAny_bind (HT.slicePart_ ps ?_)
    show wpAny _ _ (if ((-1 : Int) == 0) = true then _ else _) _ _ s
    rw [if_neg (by decide)]
    refine wpAny_bind (HT.slicePart_ pl (wpAny_bind (HT.slicePart_ pu (wpAny_bind (wpAny_pure ?_)))))
    show wpAny _ _ (pure (((items.size : Int) - 1), (-1 : Int), Builtin.Slice.slicePlaces ((items.size : Int) - 1) (-1) (-1))) _ _ s
    have e : Builtin.Slice.slicePlaces ((items.size : Int) - 1) (-1) (-1) = items.size := by
      unfold Builtin.Slice.slicePlaces
      rw [if_neg (by decide)]
      by_cases c : ((items.size : Int) - 1) > -1
      · rw [if_pos c, show -(-1 : Int) = 1 from rfl, Int.ediv_one]
        omega
      · rw [if_neg c]
        omega
    rw [e]
    exact wpAny_pure hR
  refine wpAny_bind (look ?_)
  have no : ¬ ((((items.size : Int) - 1) == 0 && (-1 : Int) == 1 && items.size == items.size) = true) := by
    intro z
    rw [Bool.and_eq_true, Bool.and_eq_true] at z
    exact absurd z.1.2 (by decide)
  show wpAny _ _ (if (((items.size : Int) - 1) == 0 && (-1 : Int) == 1 && items.size == items.size) = true then _ else _) _ _ s
  rw [if_neg no, pick_back]
  first
    | exact wpAny_bind (m := Builtin.Tuple.tupleExact _) (wpAny_newObj_type (wpAny_pure ⟨_, rfl, wpAny_pure h⟩) hfit)
    | exact wpAny_bind (m := Builtin.Tuple.tupleExact _) (wpAny_newObj_type (wpAny_bind (wpAny_pure (wpAny_pure ⟨_, rfl, wpAny_pure h⟩))) hfit)
    | exact wpAny_bind (wpAny_bind (m := Builtin.Tuple.tupleExact _) (wpAny_newObj_type (wpAny_pure (wpAny_pure ⟨_, rfl, wpAny_pure h⟩)) hfit))
    | exact wpAny_bind (wpAny_bind (m := Builtin.Tuple.tupleExact _) (wpAny_newObj_type (wpAny_pure ⟨_, rfl, wpAny_pure h⟩) hfit))
end
/-! ### t[::-1] -/
def tRevT (K : PySem.W.Frag) (te : TE) : TE := fun σ H Q => te σ H fun x H1 => ∃ a xs, x = .ref a ∧ SqT K H1 a xs ∧ ∀ p, H1 p = none → Q (.ref p) (upd H1 p (.tup xs.reverse))
theorem pe_revT {X : Cx} {e : Expr} {te : TE} {k : Nat} {p1 p2 p3 pos : Pos} (he : PE X e te) : PE X (.Subscript e (.Slice none none (some (.UnaryOp .USub (.Constant (.int 1) k p1) p2)) p3) pos) (tRevT X.K te) := by
  refine ⟨fun pins s σ H Q I h => ?_⟩
  refine Subscript_ (thn (he.run pins s σ H _ I h) fun v s1 z1 => ?_)
  obtain ⟨x, H1, I1, r1, a, xs, ex, hx, q⟩ := z1
  subst ex
  cases r1
  have hst : PO X (some (.UnaryOp .USub (.Constant (.int 1) k p1) p2)) (tPart (tUn (rU fun i => .int (-i)) (tC (.int 1)))) := po_some (pe_un un_neg pe_int)
  refine wpAny_Slice (thn (po_none.run pins s1 σ H1 (fun o H2 => o = none ∧ H2 = H1) I1 ⟨rfl, rfl⟩) fun vl s2 z2 => ?_)
  obtain ⟨l, H2, I2, pl, rfl, rfl⟩ := z2
  refine thn (po_none.run pins s2 σ H2 (fun o H3 => o = none ∧ H3 = H2) I2 ⟨rfl, rfl⟩) fun vu s3 z3 => ?_
  obtain ⟨u, H3, I3, pu, rfl, rfl⟩ := z3
  refine thn (hst.run pins s3 σ H3 (fun o H4 => o = some (-1) ∧ H4 = H3) I3 ⟨1, rfl, -1, rfl, rfl, rfl⟩) fun vs s4 z4 => ?_
  obtain ⟨o, H4, I4, ps, rfl, rfl⟩ := z4
  have I5 : Inv X pins σ H4 { s4 with heap := s4.heap.push { cls := .type "slice", data := .fields #[vl, vu, vs] } } := I4.kept (t' := s4.toks) fun b ob z => Heap.get?_push_of_some _ z
  obtain ⟨its, r, ht, hz⟩ := I5.tuple hx
  show wpAny (model X.prog X.w) X.A (subscriptTail e (.Slice none none (some (.UnaryOp .USub (.Constant (.int 1) k p1) p2)) p3) (.ref a) (.ref s4.heap.objs.size)) (EP X pins σ Q) X.xe _
  refine tail_any (ops := [.ref a, .ref s4.heap.objs.size]) ht.typeIs (PyProof.Rows.slot_tuple_getitem.lookup) ?_ (by with_unfolding_all rfl)
  refine tuple_back ht (Heap.IsSliceOf.new _ vl vu vs) pl pu ps ?_ (by rw [List.size_toArray, ← r.length]; exact hz)
  refine ⟨.ref _, _, I5.laid (t' := s4.toks) (o := .tup xs.reverse) (fun b ob z => Heap.get?_push_of_some _ z) (Nat.le_refl _) ?_, rfl, q _ (I5.hok.fresh (Nat.le_refl _))⟩
  exact ⟨by rw [List.length_reverse]; exact hz, _, r.reverse, IsTup.new _ _⟩
end Ef
namespace Ef
open PySem PySem.Spec PyProof.Rows L2
/-! ### values of all sorts -/
mutual
theorem Dp.mono {K : PySem.W.Frag} {H H' : Hp} (s : Same H H') : ∀ {v : V} {d : PyData}, Dp K H v d → Dp K H' v d
  | _, _, .non => .non
  | _, _, .bl b => .bl b
  | _, _, .int i => .int i
  | _, _, .str x => .str x
  | _, _, .lst h t => .lst (s.seq h) (DpAll.mono s t)
  | _, _, .tup h t => .tup (Same.seqT s h) (DpAll.mono s t)
theorem DpAll.mono {K : PySem.W.Frag} {H H' : Hp} (s : Same H H') : ∀ {vs : List V} {ds : List PyData}, DpAll K H vs ds → DpAll K H' vs ds
  | _, _, .nil => .nil
  | _, _, .cons h t => .cons (Dp.mono s h) (DpAll.mono s t)
end
theorem DpAll.app {K : PySem.W.Frag} {H : Hp} : ∀ {xs ys : List V} {ds es : List PyData}, DpAll K H xs ds → DpAll K H ys es → DpAll K H (xs ++ ys) (ds ++ es)
  | _, _, _, _, .nil, t => t
  | _, _, _, _, .cons h r, t => .cons h (DpAll.app r t)
theorem dpAll_at {K : PySem.W.Frag} {H : Hp} : ∀ {xs : List V} {ds : List PyData}, DpAll K H xs ds → ∀ {i : Nat} {x : V}, xs[i]? = some x → ∃ d, ds[i]? = some d ∧ Dp K H x d
  | _, _, .nil, _, _, h => by cases h
  | _, _, .cons h _, 0, x, e => ⟨_, rfl, by rw [← Option.some.inj e]; exact h⟩
  | _, _, .cons _ t, i + 1, x, e => by
    rw [List.getElem?_cons_succ] at e ⊢
    exact dpAll_at t e
theorem dpAll_len {K : PySem.W.Frag} {H : Hp} : ∀ {xs : List V} {ds : List PyData}, DpAll K H xs ds → ds.length = xs.length
  | _, _, .nil => rfl
  | _, _, .cons _ t => congrArg (· + 1) (dpAll_len t)
theorem ShAll.app {dp w1 w2 : Nat} : ∀ {ds es : List PyData}, ShAll dp w1 ds → ShAll dp w2 es → ShAll dp (w1 + w2) (ds ++ es)
  | [], es, _, t => t.mono (Nat.le_refl _) (by omega)
  | d :: r, es, h, t => by
    have hc : (d.canLay0 && PyData.canLayAll0 r) = true := h.can
    have hs : (d.showable && PyData.showableAll r) = true := h.shw
    have hl : (d.leavesShort 200 && PyData.leavesShortAll 200 r) = true := h.lvs
    have hw : d.weight + 1 + PyData.weightAll r ≤ w1 := h.wgt
    have hd : max d.depth (PyData.depthAll r) ≤ dp := h.dep
    rw [Bool.and_eq_true] at hc hs hl
    rw [Nat.max_le] at hd
    have h1 : Sh dp d.weight d := ⟨hc.1, hd.1, hs.1, hl.1, Nat.le_refl _⟩
    have h2 : ShAll dp (PyData.weightAll r) r := ⟨hc.2, hd.2, hs.2, hl.2, Nat.le_refl _⟩
    exact (ShAll.cons h1 (ShAll.app h2 t)).mono (Nat.le_refl _) (by omega)
/-- all but what stands at p -/
def hide (p : Addr) (H : Hp) : Hp := fun b => if b = p then none else H b
theorem hide_ne {p b : Addr} {H : Hp} (n : b ≠ p) : hide p H b = H b := if_neg n
theorem hide_same (p : Addr) (H : Hp) : Same (hide p H) H := fun b o e => by
  by_cases c : b = p
  · unfold hide at e
    rw [if_pos c] at e
    cases e
  · rw [hide_ne c] at e
    exact e
theorem But.hide {p : Addr} {H H' : Hp} (s : But p H H') : Same (Ef.hide p H) (Ef.hide p H') := fun b o e => by
  by_cases c : b = p
  · unfold Ef.hide at e
    rw [if_pos c] at e
    cases e
  · rw [hide_ne c] at e ⊢
    exact s b o c e
theorem hide_lst {K : PySem.W.Frag} {p a : Addr} {H : Hp} {xs : List V} (n : a ≠ p) (h : H a = some (.lst xs)) : SqL K (hide p H) a xs := SqL.of (by rw [hide_ne n]; exact h)
theorem hide_tup {K : PySem.W.Frag} {p a : Addr} {H : Hp} {xs ys : List V} (hp : H p = some (.lst ys)) (h : SqT K H a xs) : SqT K (hide p H) a xs := by
  rcases h with (h | ⟨o, h⟩) | h
  · have n : a ≠ p := fun z => by
      rw [z, hp] at h
      cases h
    exact .inl (.inl (by rw [hide_ne n]; exact h))
  · have n : a ≠ p := fun z => by
      rw [z, hp] at h
      cases h
    exact .inl (.inr ⟨o, by rw [hide_ne n]; exact h⟩)
  · exact .inr h
/-- data, or an empty dict -/
def ItemV (K : PySem.W.Frag) (H : Hp) (v : V) (d : PyData) : Prop := (Dp K H v d ∧ Sh 60 80000 d) ∨ (d = .dict [] ∧ ∃ p, v = .ref p ∧ H p = some (.dK []))
theorem ItemV.mono {K : PySem.W.Frag} {H H' : Hp} {v : V} {d : PyData} (s : Same H H') (h : ItemV K H v d) : ItemV K H' v d := by
  rcases h with ⟨h, h2⟩ | ⟨e, p, e2, h⟩
  · exact .inl ⟨Dp.mono s h, h2⟩
  · exact .inr ⟨e, p, e2, s _ _ h⟩
def tyN : PyData → String
  | .none => "NoneType"
  | .bool _ => "bool"
  | .int _ => "int"
  | .str _ => "str"
  | .list _ => "list"
  | .tuple _ => "tuple"
  | .dict _ => "dict"
theorem Dp.ty {K : PySem.W.Frag} {H : Hp} {v : V} {d : PyData} (h : Dp K H v d) : TyX K H v (.type (tyN d)) := by
  cases h with
  | non => exact .base .non
  | bl b => exact .base (.bl b)
  | int i => exact .base (.int i)
  | str x => exact .base (.str x)
  | lst h _ =>
    rcases h with (h | ⟨o, h⟩) | ⟨o, its, n, h1, h2, _⟩
    · exact .base (.lst h)
    · exact .base (.frz h)
    · exact .kList h1 h2
  | tup h _ =>
    rcases h with (h | ⟨o, h⟩) | ⟨o, its, n, h1, h2, _⟩
    · exact .base (.tup h)
    · exact .fTuple h
    · exact .kTuple h1 h2
theorem ItemV.ty {K : PySem.W.Frag} {H : Hp} {v : V} {d : PyData} (h : ItemV K H v d) : TyX K H v (.type (tyN d)) := by
  rcases h with ⟨h, _⟩ | ⟨rfl, p, rfl, h⟩
  · exact Ef.Dp.ty h
  · exact .base (.dK h)
section
variable {X : Cx} (K : PySem.W.Frag)
def rReprI (K : PySem.W.Frag) : List V → Hp → VK → Prop := fun xs H Q => ∃ v d, xs = [v] ∧ ItemV K H v d ∧ Q (.str d.shown) H
theorem call_reprI (gd : X.A.guards = some []) (hu : X.A.units + 66 < cLine) (h : X.K = K := by rfl) : CallR X (.builtin "repr") (rReprI K) := by
  subst h
  intro pins s σ H xs us Q I r h
  obtain ⟨v, d, rfl, hI, q⟩ := h
  rcases hI with ⟨hD, hS⟩ | ⟨rfl, p, rfl, hp⟩
  · exact call_reprD gd hu pins s σ H _ us Q I r ⟨v, d, rfl, hD, hS, q⟩
  · obtain ⟨u, rfl, ru⟩ := vals1 r
    obtain rfl : u = Value.ref p := ru
    obtain ⟨_, hsys, vs, kv, o, es, ep, ho, hx, hd, hk, hpr, hn⟩ := dk_of I.hok hp
    have e1 : vs = [] := by
      cases kv
      rfl
    subst e1
    have e2 : es.toList = [] := by
      generalize es.toList = l at hpr ⊢
      cases hpr
      rfl
    have dep : PyData.depth (.dict []) ≤ 2 := by decide
    have rd : Reads s.heap (.ref p) (.dict []) (p :: [] ++ []) := by
      refine .dict ho hx.1 hd ?_ ?_
      · rw [e2]
        exact .nil
      · rw [e2]
        exact .nil
    refine repr_of_reads' rd rfl (fun _ hm => ?_) gd (by omega) (fun _ _ e => e) (fun h' u tk hk => ?_) (by decide +kernel)
    · have e3 : sysModules = p := by simpa using hm
      rw [← e3] at hsys
      exact absurd hsys (by simp)
    · exact ⟨.str _, H, I.kept hk, ⟨u, rfl⟩, q⟩
end
end Ef
set_option maxHeartbeats 4000000
namespace Ef
open PySem PySem.Spec PyProof.Rows L2
/-! ### sum of a list, of a tuple of whole numbers -/
theorem cr_sumK {X : Cx} (K : PySem.W.Frag) (hc : X.calm = true := by rfl) (h : X.K = K := by rfl) : CallR X (.builtin "sum") (rSum K) := by
  subst h
  exact cr_sum hc
def rSumT (K : PySem.W.Frag) : List V → Hp → VK → Prop := fun vs H Q => ∃ (a : Addr) (ns : List Int), vs = [V.ref a] ∧ SqT K H a (ns.map V.int) ∧ Q (.int ns.sum) H
theorem cr_sumT {X : Cx} (K : PySem.W.Frag) (hc : X.calm = true := by rfl) (h : X.K = K := by rfl) : CallR X (.builtin "sum") (rSumT K) := by
  subst h
  intro pins s σ H vs us Q I r h
  obtain ⟨a, ns, rfl, hs, q⟩ := h
  obtain ⟨its, rv, hl, _⟩ := I.tuple hs
  rw [Vals.ref1 r]
  have hi := rv.ints
  obtain ⟨xs, hx⟩ := hi.allInts.items
  have hn : numsOf its.toArray.toList = ns := by rw [show its.toArray.toList = its from rfl, hi.numsOf]
  rw [hx] at hl hn
  rw [nums_intItems] at hn
  refine PySem.W.ktm_sumG (I.ok.hd hc) hl fun h' tk t' hk => ?_
  rw [preSum_eq, List.take_of_length_le (by simp), hn]
  exact ⟨.int _, H, I.kept hk, ⟨_, rfl⟩, q⟩
end Ef
set_option maxHeartbeats 4000000
namespace Ef
open PySem PySem.Spec PyProof.Rows L2
/-! ### Base.__init__(self, ..) where Base is an own class without an __init__ of its own -/
section
variable {X : Cx} {e : Expr} {es : List Expr} {ta : TA} {x : Str} {p1 p2 pos : Pos} {B : Addr}
theorem pe_baseInit {pl : Sem Bool} (hg : Gl X x) (hm : X.mg x = some (.ref B))
    (h1 : PySem.W.specialIn X.K (.ref B) "__getattribute__" = some (some (.builtin "type.__getattribute__")))
    (h2 : PySem.W.typeIn X.K (.ref B) = some (.type "type")) (h3 : PySem.W.readsIn X.K B (.type "type") = true)
    (h4 : PySem.W.findCls X.K (.ref B) (.type "type") "__init__" = some (.val (.builtin "ValueError.__init__"))) (ha : PA X (e :: es) ta)
    (a1 : eval (.Call (.Attribute (.Name x p1) "__init__" p2) (e :: es) [] pos) X.env = (do
      let bv ← eval (.Name x p1) X.env
      standAt p2.atName
      let (g, first) ← holding [bv] (getMethod bv "__init__" pl)
      callWith pos g first (backTo pos (starEach (e :: es) X.env)) (backToKw pos (keywordEach [] X.env))) := by rfl)
    (a2 : starEach (e :: es) X.env = (false, eval e X.env) :: starEach es X.env := by rfl)
    (a3 : (backTo pos (starEach es X.env)).any (fun z => z.1) = false := by rfl) (a4 : (x == ("__debug__" : Str)) = false := by decide) :
    PE X (.Call (.Attribute (.Name x p1) "__init__" p2) (e :: es) [] pos) (tVeI X.K ta) := by
  refine ⟨fun pins s σ H Q I h => ?_⟩
  refine PySem.W.methodCall_KW (ld_glob I hg hm ?_ a4) a1
  obtain ⟨m, fr⟩ := I.fr
  refine PySem.W.method_of_cls fr I.ok.mod.kin h1 ?_
  refine PySem.W.cls_val fr I.ok.mod.kin h2 h3 h4 (by decide +kernel) ?_
  show wpAny _ _ (callWith pos (Value.builtin "ValueError.__init__") [] (backTo pos (starEach (e :: es) X.env)) []) _ _ _
  refine PyProof.Rows.callWith_method1 (thn (ha.run pos pins _ σ H _ (I.tok _) h) fun us s1 got => ?_) a2 a3
  obtain ⟨vs, H1, I1, r1, a, C, ws, rfl, hl, T, ea, q⟩ := got
  cases r1 with
  | @cons _ u0 _ ur ra rest =>
    obtain rfl : u0 = Value.ref a := ra
    refine oinit_ok T I1 ea ?_ fun s' J => ⟨.non, H1, J, rfl, q⟩
    have hl2 := Paired.length rest
    rw [sizeLine_eq]
    omega
end
/-! ### an exception that is kept as a value -/
/-- at a: an exception of the class cls, its dict at d -/
def exk (a : Addr) (cls : Value) (d : Option Addr) : HO := .ext fun h => ∃ oe vs, h.get? a = some oe ∧ oe.cls = cls ∧ oe.dict = d ∧ oe.data = .fields vs
theorem exk_ok {P : Program} {w : World} {H : Hp} {h : Heap} {a : Addr} {cls : Value} {d : Option Addr} {oe : Obj} {vs : Array Value} (he : h.get? a = some oe) (hc : oe.cls = cls) (hd : oe.dict = d) (hv : oe.data = .fields vs) : ObjOk P w H h a (exk a cls d) :=
  ⟨⟨oe, vs, he, hc, hd, hv⟩, ⟨oe, he⟩, fun h1 h2 z k => by
    obtain ⟨o, v, z1, z2⟩ := z
    exact ⟨o, v, k _ z1, z2⟩⟩
theorem exk_at {P : Program} {w : World} {H : Hp} {h : Heap} {a : Addr} {cls : Value} {d : Option Addr} (hok : HOk P w H h) (e : H a = some (exk a cls d)) : ∃ oe vs, h.get? a = some oe ∧ oe.cls = cls ∧ oe.dict = d ∧ oe.data = .fields vs := by
  have z : ObjOk P w H h a (.ext fun h => ∃ oe vs, h.get? a = some oe ∧ oe.cls = cls ∧ oe.dict = d ∧ oe.data = .fields vs) := hok a _ e
  exact z.1
theorem Inv_track {X : Cx} {pins : List (Addr × Obj)} {σ : L2.St} {H : Hp} {s : Shared} {a : Addr} {oe : Obj} {vs : Array Value} {cls : Value} {d : Option Addr} (I : L2.Inv X ((a, oe) :: pins) σ H s)
    (hc : oe.cls = cls) (hd : oe.dict = d) (hv : oe.data = .fields vs) (new : X.s_0.heap.get? a = none) (hp : ∀ p ∈ X.pn ++ pins, p.1 ≠ a) : L2.Inv X pins σ (upd H a (exk a cls d)) s := by
  obtain ⟨ha, na, nL, nF, nc⟩ := I.pin (a, oe) (List.mem_append_right _ List.mem_cons_self)
  have kp : ∀ {b : Addr} {u : HO}, H b = some u → upd H a (exk a cls d) b = some u := fun {b u} z => by
    rw [upd_ne (ne_of_none z na)]
    exact z
  refine ⟨I.ok, I.os, I.bare, ⟨I.base.keep, I.base.slot, fun b o z n hx => ?_, I.base.there, fun b xs z => kp (I.base.tups b xs z), fun b o u z => kp (I.base.frzs b o u z), fun b ps z => ?_⟩, I.loc, I.cell, ?_, fun y c z => ?_, fun p q => ?_, fun b o z => ?_, I.len⟩
  · rw [upd_ne (fun y => by rw [y, new] at z; cases z)]
    exact I.base.free b o z n hx
  · obtain ⟨more, z2⟩ := I.base.tbls b ps z
    exact ⟨more, kp z2⟩
  · rw [upd_ne nL.symm]
    exact I.free
  · have nca : c ≠ a := fun y2 => by
      obtain ⟨v, oc, z3, z4⟩ := I.cell y c z
      rw [y2, ha] at z3
      obtain rfl := Option.some.inj z3
      first
        | exact nc _ z4
        | exact nc _ z4.2
        | exact nc _ z4.1
    rw [upd_ne nca]
    exact I.freeC y c z
  · obtain ⟨z1, z2, z3, z4, z5⟩ := I.pin p (by
      rcases List.mem_append.mp q with q | q
      · exact List.mem_append_left _ q
      · exact List.mem_append_right _ (List.mem_cons_of_mem _ q))
    exact ⟨z1, by rw [upd_ne (hp p q)]; exact z2, z3, z4, z5⟩
  · by_cases hb : b = a
    · subst hb
      rw [upd_same] at z
      obtain rfl := Option.some.inj z
      exact exk_ok ha hc hd hv
    · rw [upd_ne hb] at z
      exact (I.hok b o z).stay (fun _ _ _ y => y) (fun c y => kp y) fun c xs y => kp y
/-- what 'except x as n: suite' wishes of an exception of the body, the exception being kept: slot i is n's -/
def wKeep (K : PySem.W.Frag) (c : Value) (i : Nat) (ts : Addr → Value → Option Addr → TS) (Wout : WX) (D : Ends) : WX := fun cls d σ H =>
  ∃ b, PySem.W.exmOne K cls c = some b ∧ (b = true → ∀ a, H a = none → ts a cls d { nx := fun σ' H' => D.nx (σ'.set i none) (upd H' a (exk a cls d)), rt := fun _ _ => False } (σ.set i (some (.ref a))) H) ∧
    (b = false → Wout cls d σ H)
section
variable {X : Cx} {x n : Str} {c : Value} {i : Nat} {body suite : List Stmt} {b₀ : Stmt} {np pos pos' : Pos} {tb : WX → TS} {ts : Addr → Value → Option Addr → TS} {Wout : WX}
theorem ps_try_keep (stk : X.stack = X.env :: X.outer) (frm : X.env.frame = some X.env.locals) (hex : X.ex = []) (hN : X.N.Nodup) (hi : X.N[i]? = some n) (hln : X.env.kindOf n = some .local) (nm : Names X x c) (tk : Takes X Wout)
    (hb : ∀ (W : WX) (pn : List (Addr × Obj)) (xe : Value → Shared → Prop), Takes (X.tr pn xe) W → PassesOwn (model X.prog X.w) X.A X.env xe → PSs (X.tr pn xe) body (tb W))
    (hsu : ∀ (a : Addr) (oe : Obj) (cls : Value) (d : Option Addr) (pn : List (Addr × Obj)), Zc cls d oe → (∃ vs, oe.data = .fields vs) → PSs (X.suite a ((a, oe) :: pn)) (b₀ :: suite) (ts a cls d)) :
    PS X (.Try body [.ExceptHandler (some (.Name x np)) (some n) (b₀ :: suite) pos'] [] [] pos) (fun D σ H => tb (wKeep X.K c i ts Wout D) D σ H) := by
  refine ⟨fun pins s σ H D I wish => ?_⟩
  have okX := I.ok
  have frs1 : X.A.frames = some (X.env :: X.outer) := by rw [okX.frames, stk]
  refine wpAny_Try_except ?_
  refine wpAny_mono ((hb (wKeep X.K c i ts Wout D) (X.pn ++ pins) (fun z s₁ => wpAny (model X.prog X.w) X.A (noteFrame z X.env) (fun _ s₂ => wpAny (model X.prog X.w) X.A (setFlight z none) (fun _ s₃ =>
    wpAny (model X.prog X.w) X.A (handleBy z X.env [.ExceptHandler (some (.Name x np)) (some n) (b₀ :: suite) pos']) (SP X pins D) X.xe s₃) X.xe s₂) X.xe s₁) (fun u s' air => ?_) PassesOwn.looking).run [] s σ H D (I.toTry _) wish) (fun fl s1 got => ?_) (fun z s1 got => got)
  · obtain ⟨a, B, sI, pins', σ', H', cls, d, rfl, J', nb, up, sky, na, os, ag, b, hb1, hyes, hno⟩ := air
    have J : L2.Inv X pins σ' H' sI := J'.ofTry okX
    have sky1 : Sky B (X.env :: X.outer) a (Zc cls d) X.env.locals s'.heap := by rw [← stk]; exact sky
    show wpAny (model X.prog X.w) X.A (noteFrame (.ref a) X.env) _ _ _
    refine Sky.land Zc.steady frs1 frm sky1 fun h3 fl3 up3 => ?_
    have J3 : L2.Inv X pins σ' H' { s' with heap := h3 } := J.landed nb fl3.1 (up.trans up3) os ag
    obtain ⟨oe3, vs3, he3, hz3, hd3⟩ := fl3.there
    have nfr : a ∉ frs (X.env :: X.outer) := fun hm => by
      obtain ⟨_, o', e', hnf⟩ := fl3.2.2.1.mem hm
      rw [he3] at e'
      cases e'
      exact hnf _ hd3
    have nL : a ≠ X.env.locals := fun z => nfr (List.mem_filterMap.mpr ⟨X.env, List.mem_cons_self, by rw [frm, z]⟩)
    have nF : a ∉ X.fs := fun hm => by
      obtain ⟨en, hen, y⟩ := List.mem_filterMap.mp hm
      exact nfr (List.mem_filterMap.mpr ⟨en, List.mem_cons_of_mem _ hen, y⟩)
    have newI : ∀ o, sI.heap.get? a = some o → False := fun o y => by
      have y2 := nb a o y (by rw [stk]; exact nfr)
      rw [fl3.2.1] at y2
      cases y2
    have new0 : X.s_0.heap.get? a = none := by
      cases y : X.s_0.heap.get? a with
      | none => rfl
      | some o =>
        obtain ⟨o', y2⟩ := J.base.there a o y (by rw [hex]; exact List.not_mem_nil)
        exact (newI o' y2).elim
    have apart : ∀ p ∈ X.pn ++ pins, p.1 ≠ a := fun p hp y => newI p.2 (by rw [← y]; exact (J.pin p hp).1)
    have S3 := J3.suite he3 hd3 na nL nF
    refine wpAny_handleBy_cons (codeAny_handlers_test ?_) (by intro y; cases y)
    have LT : PySem.W.Looks (model X.prog X.w) h3 (typeOf (.ref a)) cls := fun A Q E s k y => wpAny_typeOf_ref (k _ _ he3) (by rw [hz3.1]; exact y)
    have LM := PySem.W.exm_one (M := model X.prog X.w) (J3.kIn) LT hb1
    have asked : ∀ {Q : Value → Shared → Prop} {E : Value → Shared → Prop}, Q c { s' with heap := h3 } → wpAny (model X.prog X.w) (X.A.mark (some (.ref a))) (eval (.Name x np) X.env) Q E { s' with heap := h3 } := fun {Q E} y => by
      obtain ⟨hg, hdbg, hm | ⟨hm, hv, hnn⟩⟩ := nm
      · exact ld_glob (X := X.suite a ((a, oe3) :: (X.pn ++ pins))) S3 hg hm y hdbg
      · exact ld_blt (X := X.suite a ((a, oe3) :: (X.pn ++ pins))) S3 hg hm hv y hnn hdbg
    refine asked (LM.here ?_)
    cases b with
    | true =>
      refine codeAny_handlers_suite_as ?_
      refine HandSPX.lands_againZ fl3 fun h4 fl4 up4 => ?_
      have J4 : L2.Inv X pins σ' H' { s' with heap := h4 } := J.landed nb fl4.1 ((up.trans up3).trans up4) os ag
      obtain ⟨oe4, vs4, he4, hz4, hd4⟩ := fl4.there
      have S4 := J4.suite he4 hd4 na nL nF
      refine store_ok (X := X.suite a ((a, oe4) :: (X.pn ++ pins))) (v := .ref a) S4 hN hi (.inl hln) rfl (fun s5 S5 => ?_) (.inr hln)
      refine wpAny_mono ((hsu a oe4 cls d (X.pn ++ pins) hz4 ⟨_, hd4⟩).run [] s5 _ H' _ S5 (hyes rfl a na)) (fun fl s6 got => ?_) (fun _ _ y => False.elim y)
      cases fl with
      | next =>
        obtain ⟨σ6, H6, S6, q6⟩ := got
        have P6 := S6.pin (a, oe4) (List.mem_append_left _ List.mem_cons_self)
        have J6 : L2.Inv X ((a, oe4) :: pins) σ6 H6 s6 := (S6.unsuite okX).pins_of fun p hp => by
          rcases List.mem_cons.mp hp with rfl | hp
          · exact P6
          · exact (S6.unsuite okX).pin p (List.mem_append_right _ hp)
        exact gone_ok J6 hN hi hln fun s7 J7 => ⟨_, _, Inv_track J7 hz4.1 hz4.2 hd4 new0 apart, q6⟩
      | brk =>
        obtain ⟨σ6, H6, S6, q6⟩ := got
        exact q6.elim
      | cont =>
        obtain ⟨σ6, H6, S6, q6⟩ := got
        exact q6.elim
      | ret u =>
        obtain ⟨v6, σ6, H6, S6, r6, q6⟩ := got
        exact q6.elim
    | false =>
      show wpAny _ X.A (handleBy (.ref a) X.env []) _ _ _
      refine wpAny_handleBy_nil ?_
      obtain ⟨k1, k2, k3, oe, vs, T, oT, ts', he, hz, hd, h1, hr⟩ := id fl3
      unfold PySem.passOn
      refine wpAny_bind (wpAny_field he hd h1 ?_)
      rw [if_neg (show ¬ ((Value.ref T == Value.none) = true) from by simp)]
      have fin : wpAny (model X.prog X.w) X.A (setFlight (.ref a) X.env.frame) (fun _ s4 => wpAny (model X.prog X.w) X.A (throw (.ref a) : Sem Flow) (SP X pins D) X.xe s4) X.xe { s' with heap := h3 } := by
        rw [frm]
        refine HandSPX.setFlight_upZ fl3 fun h4 hh4 up4 => wpAny_throw (tk _ _ ?_)
        exact ⟨a, B, sI, pins, σ', H', cls, d, rfl, J, nb, (up.trans up3).trans up4, .inr (.inr (by rw [stk]; exact hh4)), na, os, ag, hno rfl⟩
      first
        | exact wpAny_bind (wpAny_pure (wpAny_bind fin))
        | exact wpAny_bind fin
  · cases fl with
    | next =>
      obtain ⟨σ', H', J', q⟩ := got
      exact wpAny_execs_nil ⟨σ', H', J'.ofTry okX, q⟩
    | brk =>
      obtain ⟨σ', H', J', q⟩ := got
      exact ⟨σ', H', J'.ofTry okX, q⟩
    | cont =>
      obtain ⟨σ', H', J', q⟩ := got
      exact ⟨σ', H', J'.ofTry okX, q⟩
    | ret u =>
      obtain ⟨v, σ', H', J', r, q⟩ := got
      exact ⟨v, σ', H', J'.ofTry okX, r, q⟩
end
theorem takesF {X : Cx} : Takes X (fun _ _ _ _ => False) := fun _ _ x => by
  obtain ⟨_, _, _, _, _, _, _, _, _, _, _, _, _, _, _, _, z⟩ := x
  exact z.elim
theorem passF {X : Cx} : Passes (L2.CX X.prog X.w) X (fun _ _ _ => False) := fun _ _ _ _ _ _ _ x => by
  obtain ⟨_, _, _, _, _, _, _, _, _, _, _, _, z⟩ := x
  exact z.elim
/-! ### what is asked of an exception that was kept -/
section
open PySem.W PySem.Calls
variable {prog : Program} {w : World} {A : Around} {E : Value → Shared → Prop} {s : Shared} {K : PySem.W.Frag} {y D : Addr} {oy : Obj} {od : Option Obj}
theorem class_of_exc {Q : Option Value → Shared → Prop} (T : ExcC K D) (kin : K.In s.heap) (I : InstAt s.heap y oy D od) (hod : od.isSome = true) (h : Q (some (.ref D)) { s with toks := s.toks + 1 }) :
    wpAny (model prog w) A (getAttr? (.ref y) "__class__") Q E s := by
  obtain ⟨oo, rfl⟩ := Option.isSome_iff_exists.mp hod
  have ff : findObj K D (some oo) "__class__" = some (.bind (.builtin "getset_descriptor.__get__") (.builtin "object.__class__")) := findObj_data (by obtain ⟨cd, hc, _⟩ := any_some T.hd; rw [hc]; rfl) T.ha T.hn T.ht
  obtain ⟨hp, g, d, t, os⟩ := s
  have T0 := I.type (M := model prog w)
  have T1 := looks_findIn (M := model prog w) kin T.hg
  have T2 := looks_findIn (M := model prog w) kin T.hk
  have T3 := looks_find (M := model prog w) kin I ff
  have inB : Looks (model prog w) hp (isInstance (.ref y) (.type "BaseException")) true := T0.andThen (looks_subIn kin T.hs)
  have b0 : (false && onTheHeap (Value.builtin "BaseException.__getattribute__")) = false := rfl
  have b2 : (Value.builtin "BaseException.__getattribute__" == Value.builtin "object.__getattribute__") = false := by decide +kernel
  have b1 : (onTheHeap (Value.ref D) && Value.builtin "BaseException.__getattribute__" == Value.builtin "object.__getattribute__") = false := by rw [b2]; rfl
  unfold getAttr? getAttrBy? getAttrBy
  refine wpAny_bind (wpAny_mkText (wpAny_bind (wpAny_attempt (wpAny_holding (wpAny_bind (T0.at (wpAny_bind (T1.at ?_))))))))
  show wpAny _ _ (if (onTheHeap (Value.ref D) && Value.builtin "BaseException.__getattribute__" == Value.builtin "object.__getattribute__") = true then _ else _) _ _ ⟨hp, g, d, t + 1, os⟩
  rw [b1, if_neg Bool.false_ne_true]
  unfold getAttrByItsOwn hookBefore
  refine wpAny_bind ?_
  rw [if_pos (show onTheHeap (Value.ref D) = true from rfl)]
  refine T2.at ?_
  refine wpAny_bind (wpAny_attempt (wpAny_holding ?_))
  unfold callGetattribute
  rw [b0, if_neg Bool.false_ne_true]
  unfold boundAndCalled
  rw [PySem.F.excAttr_ValueError.ga.bind (.ref y)]
  refine wpAny_bind (wpAny_pure ?_)
  show wpAny _ _ (call (.builtin "BaseException.__getattribute__") [.ref y, .str "__class__" t]) _ _ _
  refine wpAny_call (codeAny_call_builtin PySem.F.excAttr_ValueError.ga.plain PySem.F.entry_bexc_ga ?_)
  refine @check_slot (model prog w) _ _ ⟨hp, g, d, t + 1, os⟩ "BaseException.__getattribute__" "BaseException" "__getattribute__" (.ref y) [.str "__class__" t] [] _ (by decide +kernel) (by decide +kernel) inB (PySem.F.args_bexc_ga (.ref y) (.str "__class__" t)) ?_
  unfold Builtin.«object.__getattribute__»
  refine wpAny_bind (wpAny_of_eq (a := ((Value.ref y : Value), [Value.str "__class__" t])) (by first | rfl | (simp only [slotArgs]; rfl)) ?_)
  refine wpAny_bind (wpAny_pure (wpAny_bind (T0.at (wpAny_bind (T3.at ?_)))))
  show wpAny _ _ (holding [Value.builtin "object.__class__"] (call (.builtin "getset_descriptor.__get__") [.builtin "object.__class__", .ref y, .ref D]) >>= ret) _ _ ⟨hp, g, d, t + 1, os⟩
  refine wpAny_bind (wpAny_holding (wpAny_call (class_get (s := ⟨hp, g, d, t + 1, os⟩) (ox := oy) (od := some oo) kin I T.hm ?_)))
  refine wpAny_pure ?_
  show wpAny _ _ (handedOut (.ref D)) _ _ ⟨hp, g, d, t + 1, os⟩
  rw [handedOut_of (v := .ref D) rfl]
  first
    | exact wpAny_pure (wpAny_pure h)
    | exact wpAny_pure h
    | exact wpAny_pure (wpAny_bind (wpAny_pure (wpAny_pure h)))
theorem kit_kept (T : ExcC K D) : KitX K (.ref y) (.ref D) (fun h => ∃ oy oo, InstAt h y oy D (some oo)) where
  ty := fun _ _ _ I => by
    obtain ⟨_, _, I⟩ := I
    exact I.type
  it := fun _ _ kin _ => by
    obtain ⟨cd, hc, _⟩ := any_some T.hd
    unfold clsIn at hc
    split at hc
    · rename_i c' d' cd' sl' ho
      intro A' Q' E' s' k q
      unfold isType loadHead
      exact wpAny_bind (wpAny_loadPart (k _ _ (kin _ _ ho)) (wpAny_pure q))
    · cases hc
  ne := fun h tp dd its n sl kin htp => by
    obtain ⟨cd, hc, _⟩ := any_some T.hd
    refine Bool.eq_false_iff.mpr fun q => ?_
    obtain rfl : D = tp := Value.ref.inj (beq_iff_eq.mp q)
    unfold clsIn at hc
    split at hc
    · rename_i c' d' cd' sl' ho
      have z := (kin _ _ ho).symm.trans htp
      cases z
    · cases hc
  ca := fun kin I k => by
    obtain ⟨_, _, I⟩ := I
    exact class_of_exc T kin I rfl k
end
section
variable {X : Cx} {pins : List (Addr × Obj)} {σ : L2.St} {H : Hp} {s : Shared}
theorem kept_inst {a D d : Addr} {fs : List (Str × V)} (I : L2.Inv X pins σ H s) (e : H a = some (exk a (.ref D) (some d))) (ed : H d = some (.xd fs)) : ∃ oy oo, PySem.W.InstAt s.heap a oy D (some oo) ∧ ∃ mA : Str → Option Value, (∀ f, RelO (fs.lookup f) (mA f)) ∧ ∀ n, PySem.W.lookIn n oo = some (mA n) := by
  obtain ⟨oe, vs, h1, h2, h3, h4⟩ := exk_at I.hok e
  obtain ⟨mA, hns, hr⟩ := (show ObjOk X.prog X.w H s.heap d (.xd fs) from I.hok d _ ed)
  obtain ⟨oo, ho, hl⟩ := lookIn_ns hns
  exact ⟨oe, oo, ⟨h1, h2, by unfold PySem.W.notCls; rw [h4] <;> rfl, by rw [h3]; exact ho⟩, mA, hr, hl⟩
end
/-- isinstance(x, c), x an exception that was kept -/
def rIsX (K : PySem.W.Frag) : List V → Hp → VK → Prop := fun xs H Q => ∃ (a D d : Addr) (fs : List (Str × V)) (c : V) (u : Value) (b : Bool), xs = [.ref a, c] ∧ H a = some (exk a (.ref D) (some d)) ∧ H d = some (.xd fs) ∧ ExcC K D ∧ ClsV c u ∧ PySem.W.kitOne K (.ref D) u = some b ∧ Q (.bl b) H
/-- isinstance(x, (c1, ..)) -/
def rIsXT (K : PySem.W.Frag) : List V → Hp → VK → Prop := fun xs H Q => ∃ (a D d : Addr) (fs : List (Str × V)) (tp : Addr) (cs : List V) (us : List Value) (b : Bool), xs = [.ref a, .ref tp] ∧ H a = some (exk a (.ref D) (some d)) ∧ H d = some (.xd fs) ∧ ExcC K D ∧ H tp = some (.tup cs) ∧ Paired ClsV cs us ∧ PySem.W.kitAny K (.ref D) us = some b ∧ Q (.bl b) H
section
variable {X : Cx}
theorem call_isX : CallR X (.builtin "isinstance") (rIsX X.K) := by
  intro pins s σ H xs us Q I r h
  obtain ⟨a, D, d, fs, c, u, b, rfl, ea, ed, T, k, e, q⟩ := h
  obtain ⟨u1, u2, rfl, r1, r2⟩ := vals2 r
  obtain rfl := k.eq r2
  obtain rfl : u1 = Value.ref a := r1
  obtain ⟨oy, oo, J, _⟩ := kept_inst I ea ed
  exact PySem.W.kia_one (kit_kept T) I.kIn ⟨_, _, J⟩ e (fun z => nomatch z) fun tk => ⟨.bl b, H, I.tok tk, rfl, q⟩
theorem call_isXT : CallR X (.builtin "isinstance") (rIsXT X.K) := by
  intro pins s σ H xs us Q I r h
  obtain ⟨a, D, d, fs, tp, cs, ws, b, rfl, ea, ed, T, hT, k, e, q⟩ := h
  obtain ⟨u1, u2, rfl, r1, r2⟩ := vals2 r
  obtain rfl : u1 = Value.ref a := r1
  obtain rfl : u2 = Value.ref tp := r2
  obtain ⟨oy, oo, J, _⟩ := kept_inst I ea ed
  obtain ⟨_, its, rv, o, h1, h2, n, h3⟩ := (show ObjOk X.prog X.w H s.heap tp (.tup cs) from I.hok tp _ hT)
  obtain rfl := ClsV.all k rv
  obtain ⟨oc, odd, dt, sl⟩ := o
  simp only at h2 h3
  subst h2 h3
  exact PySem.W.kia_tup (kit_kept T) I.kIn ⟨_, _, J⟩ h1 e (fun z => nomatch z) fun tk => ⟨.bl b, H, I.tok tk, rfl, q⟩
/-- e.f, e an exception that was kept -/
def tFldX (K : PySem.W.Frag) (f : Str) (te : TE) : TE := fun σ H Q => te σ H fun x H1 => ∃ (a D d : Addr) (fs : List (Str × V)) (v : V), x = .ref a ∧ H1 a = some (exk a (.ref D) (some d)) ∧ H1 d = some (.xd fs) ∧ XfC K D ∧ PySem.W.findIn K (.ref D) f = some none ∧ fs.lookup f = some v ∧ Q v H1
theorem pe_fldX {e : Expr} {te : TE} {pos : Pos} {f : Str} (he : PE X e te) (hb : attributeBase e f X.env (eval e X.env) = eval e X.env := by rfl) : PE X (.Attribute e f pos) (tFldX X.K f te) := by
  refine ⟨fun pins s σ H Q I h => ?_⟩
  refine attr_of hb (thn (he.run pins s σ H _ I h) fun u s1 got => ?_)
  obtain ⟨x, H1, I1, rx, a, D, d, fs, v, rfl, ea, ed, T, hno, l, q⟩ := got
  obtain rfl : u = Value.ref a := rx
  obtain ⟨oy, oo, J, mA, hr, hl⟩ := kept_inst I1 ea ed
  obtain ⟨u, hu, ru⟩ := RelO.some_of (v := v) (o := mA f) (by rw [← l]; exact hr f)
  exact HandSPX.exc_get I1.kIn J T.ga T.gg T.exC (PySem.W.findObj_own T.hdC hno rfl (by rw [hl, hu])) (handed_of ru) ⟨v, H1, I1.tok _, ru, q⟩
end
/-! ### what the written part says of the program's error classes -/
structure BaseT (K : PySem.W.Frag) (B : Addr) : Prop where
  sp : PySem.W.specialIn K (.ref B) "__getattribute__" = some (some (.builtin "type.__getattribute__"))
  ty : PySem.W.typeIn K (.ref B) = some (.type "type")
  rd : PySem.W.readsIn K B (.type "type") = true
  fc : PySem.W.findCls K (.ref B) (.type "type") "__init__" = some (.val (.builtin "ValueError.__init__"))
structure ErrT (K : PySem.W.Frag) (C fI : Addr) (f : Str) (B : Addr) : Prop where
  ox : OexC K C
  xf : XfC K C
  ec : ExcC K C
  no : PySem.W.findIn K (.ref C) f = some none
  iC : PySem.W.findIn K (.ref C) "__init__" = some (some (.ref fI))
  tI : PySem.W.typeIn K (.ref fI) = some (.type "function")
  ex : PySem.W.exmOne K (.ref C) (.ref B) = some true
/-- an error's __init__: the base's, then the field -/
def spErr (K : PySem.W.Frag) (C : Addr) (f : Str) : Sp := fun vs H Q _ => ∃ (a : Addr) (v : V), vs = [.ref a, v] ∧ H a = some (exo a C none) ∧ ∀ dx, H dx = none → dx ≠ a → Q .non (upd (upd H dx (exd dx [(f, v)])) a (exo a C (some dx)))
/-- behind the raise: the error's dict, all else as it was -/
theorem err_end {H : Hp} {a C dx : Addr} {f : Str} {v : V} (na : H a = none) (nd : (upd H a (exo a C none)) dx = none) (ne : dx ≠ a) :
    let H2 := upd (upd (upd H a (exo a C none)) dx (exd dx [(f, v)])) a (exo a C (some dx))
    H2 a = some (exo a C (some dx)) ∧ H2 dx = some (exd dx [(f, v)]) ∧ H dx = none ∧ Same H (upd (del H2 a) dx (.xd [(f, v)])) ∧ (upd (del H2 a) dx (.xd [(f, v)])) dx = some (.xd [(f, v)]) := by
  have hd : H dx = none := by
    rw [upd_ne ne] at nd
    exact nd
  refine ⟨upd_same, by rw [upd_ne ne, upd_same], hd, fun b o z => ?_, upd_same⟩
  have n1 : b ≠ a := ne_of_none z na
  have n2 : b ≠ dx := ne_of_none z hd
  rw [upd_ne n2, del_ne n1, upd_ne n1, upd_ne n2, upd_ne n1]
  exact z
end Ef
set_option maxHeartbeats 4000000
namespace Ef
open PySem PySem.Spec PyProof.Rows L2
open Sem (wp)
/-! ### enumerate(tuple) -/
theorem meets_enumerate_newG {v : Value} {o : Obj} {H : Heap → Prop} (B : Begins v o H) :
    Meets (Builtin.«enumerate.__new__» ⟨[.type "enumerate", v], []⟩) (fun _ R s => H s.heap ∧
      R (.ok (.ret (.ref (s.heap.push o).objs.size))) { s with heap := (s.heap.push o).push { cls := .type "enumerate", data := .fields #[.none, .bool false, .ref s.heap.objs.size, rawInt 0, .none, .none] } }) :=
  .of_wp fun prog w A R s h => by
    obtain ⟨hp, g, d, tk, os⟩ := s; obtain ⟨h1, h⟩ := h
    have hsub := sub_enumerate
    have q1 : ∀ {A' : Around} {E : Value → Shared → Prop} {Q : Value → Shared → Prop}, Q (.ref hp.objs.size) ⟨hp.push o, g, d, tk, os⟩ → wpAny (model prog w) A' (pyIter v) Q E ⟨hp, g, d, tk, os⟩ :=
      fun q => B.iter prog w _ _ ⟨hp, g, d, tk, os⟩ _ h1 q
    wp_walk using q1
    refine wpAny_stack_any fun st => wpAny_pure ?_
    split
    · rename_i c _ _ _ _ _
      cases (c == Value.type "enumerate")
      · wp_walk using q1
        exact ⟨_, rfl, h⟩
      · wp_walk using q1
        exact ⟨_, rfl, h⟩
    · wp_walk using q1
      exact ⟨_, rfl, h⟩
theorem call_enumerate_tup {prog : Program} {w : World} {A : Around} {E : Value → Shared → Prop} {s : Shared} {t : Addr} {items : Array Value} {Q : Value → Shared → Prop} (hT : s.heap.IsTuple t items)
    (h : ∀ h', IsEnum h' (s.heap.objs.size + 1) s.heap.objs.size 0 .none → h'.IsTupleIter s.heap.objs.size t 0 → h'.objs.size = s.heap.objs.size + 2 →
      (∀ b o, s.heap.get? b = some o → h'.get? b = some o) → Q (.ref (s.heap.objs.size + 1)) { s with heap := h' }) :
    wpAny (model prog w) A (call (.type "enumerate") [.ref t]) Q E s := by
  refine callType_new F.called_enumerate (by decide) (F.typeCall_enumerate_1 _) (F.newCall_enumerate_1 _) (fun obj => F.args_object_init_2 obj _) F.entry_enumerate_new
    (meets_enumerate_newG (begins_tuple t items)) ⟨hT, ?_⟩
  have hz : (s.heap.push { cls := .type "tuple_iterator", data := .fields #[.ref t, .int 0 0] }).objs.size = s.heap.objs.size + 1 := Heap.size_push ..
  show _ ∧ _
  rw [hz]
  have he : IsEnum ((s.heap.push { cls := .type "tuple_iterator", data := .fields #[.ref t, .int 0 0] }).push
      { cls := .type "enumerate", data := .fields #[.none, .bool false, .ref s.heap.objs.size, rawInt 0, .none, .none] }) (s.heap.objs.size + 1) s.heap.objs.size 0 .none := by
    have := Heap.get?_push_size (s.heap.push { cls := .type "tuple_iterator", data := .fields #[.ref t, .int 0 0] })
      (o := { cls := .type "enumerate", data := .fields #[.none, .bool false, .ref s.heap.objs.size, rawInt 0, .none, .none] }) rfl
    rw [hz] at this; exact this
  exact ⟨⟨_, he, rfl⟩, h _ he ⟨_, Heap.get?_push_of_some _ (Heap.get?_push_size _ rfl), rfl, rfl⟩ (by rw [Heap.size_push, hz]) fun b o x => Heap.get?_push_of_some _ (Heap.get?_push_of_some _ x)⟩
/-- the tuple at a, each item in a new pair -/
def Itet (K : PySem.W.Frag) (a : Addr) : It :=
  ⟨fun i H => ∃ (xs : List V) (x : V), SqT K H a xs ∧ xs[i]? = some x, fun i H v H' => ∃ T x, v = .ref T ∧ H T = none ∧ H' = upd H T (.tup [.int (i : Nat), x]) ∧ ∀ xs, SqT K H a xs → xs[i]? = some x, fun i H => ∃ xs : List V, SqT K H a xs ∧ xs.length ≤ i⟩
theorem tup_ne_iter {h : Heap} {a it : Addr} {items : Array Value} {i : Nat} (ht : h.IsTuple a items) (hit : h.IsTupleIter it a i) : a ≠ it := by
  rintro rfl
  obtain ⟨o, h1, c1, _⟩ := ht
  obtain ⟨o', h2, c2, _⟩ := hit
  rw [h1] at h2
  obtain rfl := Option.some.inj h2
  rw [c1] at c2
  injection c2 with c3
  exact absurd c3 (by decide)
theorem enum_ne_tup {h : Heap} {a e it : Addr} {items : Array Value} {i : Int} {old : Value} (ht : h.IsTuple a items) (he : IsEnum h e it i old) : e ≠ a := by
  rintro rfl
  obtain ⟨o, h1, c1, _⟩ := ht
  have h2 : h.get? e = _ := he
  rw [h1] at h2
  obtain rfl := Option.some.inj h2
  injection c1 with c3
  exact absurd c3 (by decide)
theorem wpAny_pyNext_enum_endX {prog : Program} {w : World} {A : Around} {E : Value → Shared → Prop} {s : Shared} {e it t : Addr} {i : Nat} {items : Array Value} {old : Value} {Q : Option Value → Shared → Prop} (hh : A.handled = none)
    (he : IsEnum s.heap e it i old) (hit : s.heap.IsTupleIter it t i) (ht : s.heap.IsTuple t items) (hx : items[i]? = none)
    (hQ : ∀ h', Heap.ExtBut it s.heap h' → Q none { s with heap := h' }) : wpAny (model prog w) A (pyNext (.ref e)) Q E s := by
  have hT : s.TypeIs (.ref e) "enumerate" := ⟨_, he, rfl⟩
  unfold pyNext
  refine wpAny_bind (wpAny_attempt (wpAny_callSpecial?_slot (name := Str.ofString "__next__") hT F.slot_enumerate_next
    (wpAny_call_entry F.slot_enumerate_next hT F.entry_enumerate_next ?_ (F.args_enumerate_next_1 _))))
  show wpAny _ _ (field (.ref e) 2 >>= _) _ _ _
  refine wpAny_bind (wpAny_field he rfl (x := .ref it) rfl ?_)
  refine wpAny_bind (wpAny_nextOf_tuple_end (show A.in1.handled = none from hh) hit ht hx fun h' x he' hx' => ?_)
  obtain ⟨o, ho, hc⟩ := hx'
  refine wpAny_bind (wpAny_isInstance (T := "StopIteration") (b := true) ⟨o, ho, hc⟩ isSubtype_stop ?_)
  exact wpAny_pure (hQ _ he')
theorem turn_enumT {P : Program} {w : World} {K : PySem.W.Frag} {elts : List Expr} {kk : Nat} {tpos : Pos} (a e it : Addr) :
    Turn P w K (.Tuple elts kk tpos) (Itet K a) [e, it] e (fun i h => (∃ old, IsEnum h e it ((i : Nat) : Int) old) ∧ h.IsTupleIter it a i ∧ e ≠ it) where
  mem := by simp
  obj := fun i h st b hb => by
    obtain ⟨⟨old, he⟩, ⟨o, ho, hc, hd⟩, _⟩ := st
    have e' : b = e ∨ b = it := by simpa using hb
    rcases e' with z | z
    · rw [z]; exact ⟨_, he, fun v q => nomatch q⟩
    · rw [z]; exact ⟨o, ho, fun v q => by rw [hd] at q; cases q⟩
  keep := fun i h h' st k => let ⟨⟨old, he⟩, hi, hne⟩ := st; ⟨⟨old, k e (by simp) _ he⟩, hi.at fun o q => k it (by simp) o q, hne⟩
  item := by
    intro X hP hw hK hc i pins s σ H E I hf st hg
    subst hP hw hK
    obtain ⟨⟨old, he⟩, hit, hne⟩ := st
    obtain ⟨xs, x, hq, hx⟩ := hg
    obtain ⟨its, rv, p, hz⟩ := I.tuple hq
    obtain ⟨u, hu, ru⟩ := rv.get hx
    have hel : e < s.heap.objs.size := Heap.lt_size he
    have hil : it < s.heap.objs.size := by obtain ⟨_, q, _⟩ := hit; exact Heap.lt_size q
    have pT : s.heap.IsTuple a its.toArray := p
    have hai := tup_ne_iter pT hit
    have hei : i < its.toArray.size := by
      have h9 : i < its.length := by
        rw [← rv.length]
        exact (List.getElem?_eq_some_iff.mp hx).1
      simpa using h9
    refine wpAny_pyNext_enum_itemD (Draws.tuple (show X.A.in1.handled = none from I.ok.hd hc) it a hai its.toArray) he ⟨hit, pT⟩ hei hne (fun z => ?_) fun x2 h' tk hP ho hst' hT hsz hk => ?_
    · rcases List.mem_cons.mp z with z | z
      · exact hne z
      · exact enum_ne_tup pT he (by simpa using z)
    have hP2 : its.toArray[i]? = some x2 := hP
    obtain rfl : u = x2 := by
      have h9 : its[i]? = some x2 := by simpa using hP2
      rw [hu] at h9
      exact Option.some.inj h9
    refine ⟨_, rfl, wpAny_letOwnedTupleGo_enum (s := { s with heap := h', toks := tk + 1 }) ho fun h'' he' sb => ?_⟩
    have hT2 : h''.get? s.heap.objs.size = some { cls := .type "tuple", data := .seq #[.int i tk, u] } := (sb.2 _ (Nat.ne_of_gt hel)).trans hT
    have new : ObjOk X.prog X.w (upd H s.heap.objs.size (.tup [.int (i : Nat), x])) h'' s.heap.objs.size (.tup [.int (i : Nat), x]) :=
      ⟨by show 2 ≤ sizeLine; decide, [.int i tk, u], .cons ⟨_, rfl⟩ (.cons ru .nil), ⟨_, hT2, rfl, _, rfl⟩⟩
    have I1 : Inv X pins σ (upd H s.heap.objs.size (.tup [.int (i : Nat), x])) { s with heap := h'', toks := tk + 1 } :=
      I.turnedNew (ch := [e, it]) (fun b ob hb q => (sb.2 b (fun z => hb (by simp [z]))).trans (hk b ob (fun z => hb (by simp [z])) (fun z => hb (by simp [z])) q)) hf (Nat.le_refl _) new
    refine ⟨.ref s.heap.objs.size, _, I1, rfl, ⟨_, x, rfl, I.hok.fresh (Nat.le_refl _), rfl, fun ys hy => by rw [I.tuple_inj hy hq]; exact hx⟩, ⟨⟨u, ?_⟩, hst'.1.at fun o q => (sb.2 it (Ne.symm hne)).trans q, hne⟩, fun b hb => ?_⟩
    · have e1 : ((i + 1 : Nat) : Int) = (i : Int) + 1 := by omega
      rw [e1]; exact he'
    · have hb' : b < s.heap.objs.size := by
        have e' : b = e ∨ b = it := by simpa using hb
        rcases e' with z | z
        · rw [z]; exact hel
        · rw [z]; exact hil
      rw [upd_ne (Nat.ne_of_lt hb')]
      exact (hf b hb).1
  done := by
    intro X hP hw hK hc i pins s σ H E I hf st hg
    subst hP hw hK
    obtain ⟨⟨old, he⟩, hit, hne⟩ := st
    obtain ⟨xs, hq, hx⟩ := hg
    obtain ⟨its, rv, p, hz⟩ := I.tuple hq
    obtain ⟨f0, f1, f2, f3, f4, f5⟩ := hf it (by simp)
    have pT : s.heap.IsTuple a its.toArray := p
    have hl := rv.length
    refine wpAny_pyNext_enum_endX (I.ok.hd hc) he hit pT (by simp; omega) fun h' eb => ⟨rfl, I.turned (t' := s.toks) (fun b o hb q => eb b o hb q) f0 f1 f3 f4 f5⟩
  self := fun A i s Q E st h => let ⟨⟨_, he⟩, _⟩ := st; wpAny_pyIter_enum he h
def iEnumT (K : PySem.W.Frag) (ta : TA) : TI := fun σ H R => ta σ H fun vs H1 => ∃ a xs, vs = [.ref a] ∧ SqT K H1 a xs ∧ R (Itet K a) H1
theorem pi_enumT {X : Cx} {e : Expr} {ta : TA} {p pos tpos : Pos} {elts : List Expr} {kk : Nat} (hg : Gl X "enumerate") (hm : X.mg "enumerate" = none) (ha : PA X [e] ta) (hs : starEach [e] X.env = [(false, eval e X.env)] := by rfl) :
    PI X (.Tuple elts kk tpos) (.Call (.Name "enumerate" p) [e] [] pos) (iEnumT X.K ta) := by
  refine ⟨fun pins s σ H R I h => ?_⟩
  refine Call_ (ld_blt I hg hm boot_enumerate (PyProof.Rows.callWith_type1 (thn (ha.run pos pins s σ H _ I h) fun us s1 ⟨vs, H1, I1, r1, q1⟩ => ?_) hs rfl))
  obtain ⟨a, xs, ex, hq, q⟩ := q1
  subst ex
  cases r1 with
  | cons r rr =>
    cases rr
    cases r
    obtain ⟨its, rv, p', hz⟩ := I1.tuple hq
    refine call_enumerate_tup (show s1.heap.IsTuple a its.toArray from p') fun h' he hit hsz hk => wpAny_pyIter_enum he ?_
    have I2 : Inv X pins σ H1 { s1 with heap := h' } := I1.kept (t' := s1.toks) hk
    refine ⟨s1.heap.objs.size + 1, [s1.heap.objs.size + 1, s1.heap.objs.size], _, _, H1, rfl, I2, turn_enumT a (s1.heap.objs.size + 1) s1.heap.objs.size, ⟨⟨.none, he⟩, hit, Nat.succ_ne_self _⟩, fun b hb => ?_, q⟩
    have e' : b = s1.heap.objs.size + 1 ∨ b = s1.heap.objs.size := by simpa using hb
    have hle : s1.heap.objs.size ≤ b := by
      rcases e' with z | z
      · rw [z]; exact Nat.le_add_right _ _
      · rw [z]; exact Nat.le_refl _
    exact I1.fpOk hle (I1.hok.fresh hle)
/-! ### sorted(xs) of tuples of ints, also of at most one -/
theorem sort_short {prog : Program} {w : World} {A : Around} {E : Value → Shared → Prop} {s : Shared} {a : Addr} {vs : List Value} {n : Nat} {P : PySem.Fin → Shared → Prop} (ho : s.heap.get? a = some (seqObj "list" vs.toArray n)) (h1 : vs.length < 2)
    (h : ∀ out : Array Value, out.toList.Perm vs → P (.done (.ret .none)) { s with heap := sortedHeap s.heap a vs out }) :
    wpAny (model prog w) A (Builtin.«list.sort» ⟨[.ref a], []⟩) P E s :=
  SK.plain_sort (r := fun _ => 0) ho (by omega) (fun h2 Q hQ => absurd h2 (by omega)) fun ps out e1 e2 e3 => h out (TS.out_rank (r := fun _ => 0) e1 e2 e3).1
theorem sorted_short {prog : Program} {w : World} {A : Around} {E : Value → Shared → Prop} {s : Shared} {l : Addr} {vs : List Value} {Q : Value → Shared → Prop} (hl : s.heap.IsList l vs.toArray) (h1 : vs.length < 2)
    (h : ∀ out : Array Value, out.toList.Perm vs → Q (.ref (s.heap.objs.size + 1)) { s with heap := sortedAll s.heap vs out }) :
    wpAny (model prog w) A (call (.builtin "sorted") [.ref l]) Q E s := by
  refine Calls.call_function_entry kind_sorted plain_sorted entry_sorted (args_sorted1 _) ?_
  unfold Builtin.«sorted»
  refine wpAny_bind (m := checkCount "sorted" 1 1 _) (wpAny_pure ?_)
  refine wpAny_bind (collect_list hl ?_ (by rw [sizeLine_eq]; omega))
  refine wpAny_bind (wpAny_newList ?_ (by rw [sizeLine_eq]; omega))
  have hsz : ((s.heap.push (seqObj "list" #[] 0)).update s.heap.objs.size (Obj.mapSeq (· ++ vs.toArray))).objs.size = s.heap.objs.size + 1 := by
    rw [Heap.size_update, size_push']
  have hoL : (((s.heap.push (seqObj "list" #[] 0)).update s.heap.objs.size (Obj.mapSeq (· ++ vs.toArray))).push (seqObj "list" vs.toArray 0)).get? (s.heap.objs.size + 1) = some (seqObj "list" vs.toArray 0) := by
    rw [← hsz]; exact Heap.get?_push_size _ rfl
  show wpAny _ _ _ _ _ { s with heap := ((s.heap.push (seqObj "list" #[] 0)).update s.heap.objs.size (Obj.mapSeq (· ++ vs.toArray))).push (seqObj "list" vs.toArray 0) }
  rw [hsz]
  refine wpAny_bind (wpAny_holding (wpAny_call_entry slot_list_sort ⟨_, hoL, rfl⟩ entry_list_sort (sort_short hoL h1 fun out a1 => ⟨_, rfl, ?_⟩) (args_list_sort _)))
  exact wpAny_pure ⟨_, rfl, h out a1⟩
def rSortA (K : PySem.W.Frag) (B : Int) : List V → Hp → VK → Prop := fun vs H Q => (∃ d, 1 ≤ d ∧ rSortU K d B vs H Q) ∨
  ∃ (a : Addr) (xs : List V), vs = [V.ref a] ∧ SqL K H a xs ∧ xs.length < 2 ∧ (∀ x ∈ xs, ∃ t, x = .ref t) ∧ ∀ p, H p = none → Q (.ref p) (upd H p (.lst xs))
theorem perm_short {α : Type} {l m : List α} (h : l.Perm m) (h1 : m.length < 2) : l = m := by
  cases m with
  | nil => exact List.perm_nil.mp h
  | cons x r =>
    cases r with
    | nil => exact List.perm_singleton.mp h
    | cons y r => exact absurd h1 (by simp)
theorem cr_sortA {X : Cx} {B : Int} : CallR X (.builtin "sorted") (rSortA X.K B) := by
  intro pins s σ H vs us Q I r h
  rcases h with ⟨d, hd, h⟩ | ⟨a, xs, rfl, hs, h1, hx, q⟩
  · exact cr_sortT hd pins s σ H vs us Q I r h
  · obtain ⟨its, rv, hl, hz⟩ := I.list hs
    rw [Vals.ref1 r]
    obtain ⟨e1, e2⟩ := bkV_refs rv hx
    refine sorted_short hl.isList (by rw [← rv.length]; exact h1) fun out p1 => ?_
    · obtain ⟨ep, he'⟩ := PyProof.Rows.sortedAll_at s.heap its out
      have e9 : out.toList = its := perm_short p1 (by rw [← rv.length]; exact h1)
      refine ⟨.ref _, upd H (s.heap.objs.size + 1) (.lst xs), I.laid (t' := s.toks) (fun _ _ => PyProof.Rows.sortedAll_old) (Nat.le_succ _) ⟨hz, out.toList, ep, by rw [e9]; exact rv, he'⟩, rfl, q _ (I.hok.fresh (Nat.le_succ _))⟩
theorem walk_enumT {K : PySem.W.Frag} {a : Addr} {xs : List V} : Walk (Itet K a) xs.length (fun H => SqT K H a xs) (YPair (fun i => some (.int (i : Nat))) (fun i => xs[i]?)) := by
  refine ⟨fun i _ hi q => ⟨xs, xs[i], q, by simp [hi]⟩, fun _ q => ⟨xs, q, Nat.le_refl _⟩, fun i H v H' _ q y => ?_⟩
  obtain ⟨T, x, h1, h2, h3, h4⟩ := y
  exact ⟨T, .int (i : Nat), x, h1, h2, h3, rfl, h4 xs q⟩
end Ef
set_option maxHeartbeats 4000000
namespace Ef
open PySem PySem.Spec PyProof.Rows L2
/-! ### sorted(t) of a tuple of ints -/
section
variable {prog : Program} {w : World} {A : Around} {E : Value → Shared → Prop} {s : Shared}
theorem collect_tup {l : Addr} {vs : List Value} {Q : List Value → Shared → Prop} (hl : s.heap.IsTuple l vs.toArray) (hn : vs.length ≤ sizeLine)
    (h : Q vs { s with heap := (s.heap.push (seqObj "list" #[] 0)).update s.heap.objs.size (Obj.mapSeq (· ++ vs.toArray)) }) : wpAny (model prog w) A (collect (.ref l)) Q E s := by
  obtain ⟨o, ho, hc, n, hd⟩ := hl
  have h2 : (s.heap.push (seqObj "list" #[] 0)).get? l = some o := Heap.get?_push_of_some _ ho
  have h3 : (s.heap.push (seqObj "list" #[] 0)).get? s.heap.objs.size = some (seqObj "list" #[] 0) := Heap.get?_push_size _ rfl
  have h4 : ((#[] : Array Value) ++ vs.toArray).toList = vs := by simp
  have h5 : (#[] ++ vs.toArray).size ≤ sizeLine + 1 := by
    simp only [Array.size_append, List.size_toArray, List.length_nil]
    omega
  unfold collect
  refine wpAny_bind (wpAny_runValue (codeAny_builtin entry_proto_collect' (show wpAny _ _ (do again (.builtin "list.__iadd__" ⟨[← newList [], .ref l], []⟩)) _ _ s from ?_)))
  refine wpAny_bind (wpAny_newList (wpAny_pure ⟨Code.quiet_builtin _ (by decide +kernel), codeAny_builtin entry_list_iadd' (show wpAny _ _ (Builtin.List.listExtendWith (.ref s.heap.objs.size) (.ref l) (.ref s.heap.objs.size)) _ _ { s with heap := s.heap.push (seqObj "list" #[] 0) } from ?_)⟩))
  unfold Builtin.List.listExtendWith
  refine wpAny_bind (wpAny_typeOf (T := "tuple") ⟨o, h2, hc⟩ ?_)
  rw [if_pos (by rw [show (Value.type "tuple" == Value.type "tuple") = true from rfl]; simp)]
  refine wpAny_bind (listItems_at h2 hd (wpAny_bind (listItems_at (xs := #[]) (n := 0) h3 rfl ?_)))
  rw [if_neg (by simp)]
  refine wpAny_bind (listUpdate_at (xs := #[]) (n := 0) h3 rfl (wpAny_pure ?_) (Nat.zero_le _) h5)
  show wpAny (model prog w) A (do
      let o ← load s.heap.objs.size
      match o.data with
      | .seq ys _ => pure ys.toList
      | _ => unsupported "internal:collect") Q E { s with heap := (s.heap.push (seqObj "list" #[] 0)).update s.heap.objs.size (Obj.mapSeq (· ++ vs.toArray)) }
  refine wpAny_bind (wpAny_load (get?_update_seq h3 _) (show wpAny _ _ (pure ((#[] : Array Value) ++ vs.toArray).toList) Q E _ from ?_))
  rw [h4]
  exact wpAny_pure h
theorem sorted_tup {l : Addr} {vs : List Value} {ns : List Int} {Q : Value → Shared → Prop} (hl : s.heap.IsTuple l vs.toArray) (hI : IntsAre vs ns) (hn : vs.length < 64)
    (h : ∀ (out : Array Value) (ns' : List Int), IntsAre out.toList ns' → ns'.Perm ns → ns'.Pairwise (· ≤ ·) → Q (.ref (s.heap.objs.size + 1)) { s with heap := sortedAll s.heap vs out }) :
    wpAny (model prog w) A (call (.builtin "sorted") [.ref l]) Q E s := by
  refine Calls.call_function_entry kind_sorted plain_sorted entry_sorted (args_sorted1 (.ref l)) ?_
  unfold Builtin.«sorted»
  refine wpAny_bind (m := checkCount "sorted" 1 1 _) (wpAny_pure (wpAny_bind (collect_tup hl (by rw [sizeLine_eq]; omega) (wpAny_bind (wpAny_newList ?_ (by rw [sizeLine_eq]; omega))))))
  have z1 : ((s.heap.push (seqObj "list" #[] 0)).update s.heap.objs.size (Obj.mapSeq (· ++ vs.toArray))).objs.size = s.heap.objs.size + 1 := (Heap.size_update ..).trans (size_push' ..)
  have z2 := Heap.get?_push_size ((s.heap.push (seqObj "list" #[] 0)).update s.heap.objs.size (Obj.mapSeq (· ++ vs.toArray))) (o := seqObj "list" vs.toArray 0) rfl
  rw [z1] at z2
  show wpAny _ _ _ _ _ { s with heap := ((s.heap.push (seqObj "list" #[] 0)).update s.heap.objs.size (Obj.mapSeq (· ++ vs.toArray))).push (seqObj "list" vs.toArray 0) }
  rw [z1]
  refine wpAny_bind (wpAny_holding (wpAny_call_entry slot_list_sort ⟨_, z2, rfl⟩ entry_list_sort (list_sort_tree z2 hI hn fun out ns' a1 a2 a3 => ⟨_, rfl, wpAny_pure ⟨_, rfl, h out ns' a1 a2 a3⟩⟩) (args_list_sort _)))
end
def rSortTI (K : PySem.W.Frag) : List V → Hp → VK → Prop := fun vs H Q => ∃ (a : Addr) (ns : List Int), vs = [V.ref a] ∧ (SqL K H a (ns.map V.int) ∨ SqT K H a (ns.map V.int)) ∧ ns.length < 64 ∧
  ∀ (ns' : List Int) (p : Addr), ns'.Perm ns → ns'.Pairwise (· ≤ ·) → H p = none → Q (.ref p) (upd H p (.lst (ns'.map V.int)))
section
variable {X : Cx} (K : PySem.W.Frag)
theorem cr_sortTI (h : X.K = K := by rfl) : CallR X (.builtin "sorted") (rSortTI K) := by
  subst h
  intro pins s σ H vs us Q I r h
  obtain ⟨a, ns, rfl, hs | hs, h64, q⟩ := h
  · exact cr_sorted pins s σ H _ us Q I r ⟨a, ns, rfl, hs, h64, q⟩
  · obtain ⟨its, rv, hl, hz⟩ := I.tuple hs
    rw [Vals.ref1 r]
    have hi := rv.ints
    refine sorted_tup (show s.heap.IsTuple a its.toArray from hl) hi (by rw [hi.length]; exact h64) fun out ns' h1 h2 h3 => ?_
    obtain ⟨ep, he'⟩ := PyProof.Rows.sortedAll_at s.heap its out
    have hlen : (ns'.map V.int).length ≤ sizeLine := by
      rw [List.length_map, h2.length_eq]
      exact small64 h64
    exact ⟨.ref _, upd H (s.heap.objs.size + 1) (.lst (ns'.map V.int)), I.laid (t' := s.toks) (fun _ _ => PyProof.Rows.sortedAll_old) (Nat.le_succ _) ⟨hlen, out.toList, ep, vals_of_ints h1, he'⟩, rfl, q ns' _ h2 h3 (I.hok.fresh (Nat.le_succ _))⟩
end
end Ef
namespace Ef
open PySem PySem.Spec PyProof.Rows L2
/-! ### repr of a list of one value of any sort -/
section
variable {X : Cx} {es : List Expr} {t : TA} {pos : Pos}
def tLstN (t : TA) : TE := fun σ H Q => t σ H fun xs H1 => xs.length ≤ sizeLine ∧ ∀ p, H1 p = none → p ≠ sysModules → Q (.ref p) (upd H1 p (.lst xs))
theorem far_new {pins : List (Addr × Obj)} {σ : L2.St} {H : Hp} {s : Shared} (I : Inv X pins σ H s) : s.heap.objs.size ≠ sysModules := by
  obtain ⟨mc, h1, _⟩ := I.nolimit
  have h2 : cStatics < s.heap.objs.size := h1.lt
  have h3 : (2 : Nat) < s.heap.objs.size := h2
  show ¬ s.heap.objs.size = 1
  omega
theorem pe_lstN (h : PA X es t) : PE X (.List es pos) (tLstN t) := by
  refine ⟨fun pins s σ H Q I hq => ?_⟩
  refine wpAny_List_spliced (thn (h.run pos pins s σ H _ I hq) fun us s1 ⟨xs, H1, I1, r, z, q⟩ => ⟨by rw [← r.length]; exact z, ?_⟩)
  have hf : H1 s1.heap.objs.size = none := I1.hok.fresh (Nat.le_refl _)
  refine ⟨.ref s1.heap.objs.size, upd H1 s1.heap.objs.size (.lst xs), I1.laid (t' := s1.toks) (fun b u e => Heap.get?_push_of_some _ e) (Nat.le_refl _) ?_, rfl, q _ hf (far_new I1)⟩
  exact ⟨z, us, 0, r, Heap.get?_push_size _ rfl⟩
end
/-- data that is not deep, or an empty dict -/
def ItemS (K : PySem.W.Frag) (H : Hp) (v : V) (d : PyData) : Prop := (Dp K H v d ∧ Sh 50 70000 d) ∨ (d = .dict [] ∧ ∃ p, v = .ref p ∧ H p = some (.dK []))
theorem ItemS.mono {K : PySem.W.Frag} {H H' : Hp} {v : V} {d : PyData} (s : Same H H') (h : ItemS K H v d) : ItemS K H' v d := by
  rcases h with ⟨h, h2⟩ | ⟨e, p, e2, h⟩
  · exact .inl ⟨Dp.mono s h, h2⟩
  · exact .inr ⟨e, p, e2, s _ _ h⟩
def rReprL (K : PySem.W.Frag) : List V → Hp → VK → Prop := fun xs H Q => ∃ l v d, xs = [.ref l] ∧ H l = some (.lst [v]) ∧ l ≠ sysModules ∧ ItemS K H v d ∧ Q (.str (PyData.list [d]).shown) H
section
variable {X : Cx} (K : PySem.W.Frag)
theorem call_reprL (gd : X.A.guards = some []) (hu : X.A.units + 66 < cLine) (h : X.K = K := by rfl) : CallR X (.builtin "repr") (rReprL K) := by
  subst h
  intro pins s σ H xs us Q I r h
  obtain ⟨l, v, d, rfl, hl, hne, hI, q⟩ := h
  rcases hI with ⟨hD, hS⟩ | ⟨rfl, p, rfl, hp⟩
  · refine call_reprD gd hu pins s σ H _ us Q I r ⟨.ref l, .list [d], rfl, .lst (SqL.of hl) (.cons hD .nil), ?_, q⟩
    exact (Sh.lst (ShAll.cons hS (ShAll.nil.mono (Nat.zero_le 50) (Nat.zero_le 0)))).mono (by decide) (by decide)
  · obtain ⟨u, rfl, ru⟩ := vals1 r
    obtain rfl : u = Value.ref l := ru
    obtain ⟨_, hsys, vs, kv, o, es, ep, ho, hx, hd, hk, hpr, hn⟩ := dk_of I.hok hp
    have e1 : vs = [] := by
      cases kv
      rfl
    subst e1
    have e2 : es.toList = [] := by
      generalize es.toList = l at hpr ⊢
      cases hpr
      rfl
    have rd : Reads s.heap (.ref p) (.dict []) (p :: [] ++ []) := by
      refine .dict ho hx.1 hd ?_ ?_
      · rw [e2]
        exact .nil
      · rw [e2]
        exact .nil
    obtain ⟨its, rv, ⟨ol, nl, g1, g2, g3, g4⟩, hz⟩ := I.list (SqL.of hl)
    obtain ⟨u, rfl, ru⟩ := vals1 rv
    obtain rfl : u = Value.ref p := ru
    have dep : PyData.depth (.list [.dict []]) ≤ 3 := by decide
    have rdl : Reads s.heap (.ref l) (.list [.dict []]) (l :: ((p :: [] ++ []) ++ [])) := .list g1 g2 (by first | exact g3 | exact g4) (.cons rd .nil)
    refine repr_of_reads' rdl rfl (fun _ hm => ?_) gd (by omega) (fun _ _ e => e) (fun h' u tk hk => ?_) (by decide +kernel)
    · have e3 : sysModules = l ∨ sysModules = p := by simpa using hm
      rcases e3 with e3 | e3
      · exact hne e3.symm
      · rw [← e3] at hsys
        exact absurd hsys (by simp)
    · exact ⟨.str _, H, I.kept hk, ⟨u, rfl⟩, q⟩
end
section
variable {X : Cx} (K : PySem.W.Frag)
theorem cr_allK (hc : X.calm = true := by rfl) (h : X.K = K := by rfl) : CallR X (.builtin "all") (rAll K) := h ▸ cr_all hc
end
end Ef
namespace Ef
open PySem PySem.Spec PyProof.Rows L2
/-! ### data: equal to itself, shown -/
theorem neD_same {K : PySem.W.Frag} {H : Hp} {x y : V} {d : PyData} {Q : VK} (hx : Dp K H x d) (hy : Dp K H y d) (s : Sh 60 80000 d) (q : Q (.bl false) H) : rNeD K x y H Q := by
  refine ⟨d, d, hx, hy, s.shaped (by decide), s.shaped (by decide), ?_⟩
  rw [SeqAt.eqv_refl d s.can]
  exact q
theorem eqD_same {K : PySem.W.Frag} {H : Hp} {x y : V} {d : PyData} {Q : VK} (hx : Dp K H x d) (hy : Dp K H y d) (s : Sh 60 80000 d) (q : Q (.bl true) H) : rEqD K x y H Q := by
  refine ⟨d, d, hx, hy, s.shaped (by decide), s.shaped (by decide), ?_⟩
  rw [SeqAt.eqv_refl d s.can]
  exact q
/-- numbers as data -/
def natD (ms : List Nat) : List PyData := ms.map fun (m : Nat) => PyData.int (m : Int)
theorem sh_nat {ms : List Nat} {b : Nat} (h0 : 0 < b) (h6 : b ≤ 600) (h : ∀ x ∈ ms, x < 2 ^ b) : ShAll 0 ((b + 1) * ms.length) (natD ms) := by
  have e : natD ms = (ms.map fun (m : Nat) => (m : Int)).map PyData.int := by
    unfold natD
    rw [List.map_map]
    rfl
  rw [e]
  have h1 := ShAll.ints h0 h6 (ns := ms.map fun (m : Nat) => (m : Int)) fun x hx => by
    obtain ⟨m, hm, rfl⟩ := List.mem_map.mp hx
    exact h m hm
  rw [List.length_map] at h1
  exact h1
theorem sh_list {ms : List Nat} (hl : ms.length ≤ 60) (h : ∀ x ∈ ms, x < 60) : Sh 1 500 (.tuple (natD ms)) := by
  have h1 := sh_nat (b := 6) (by decide) (by decide) (ms := ms) fun x hx => by
    have := h x hx
    omega
  exact Sh.tup (h1.mono (by decide) (by omega))
end Ef
set_option maxHeartbeats 4000000
namespace Ef
open PySem PySem.Spec PyProof.Rows L2
/-! ### x in l, l.index(x), l.count(x) where items are data -/
def rCntD (K : PySem.W.Frag) : V → List V → Hp → VK → Prop := fun x xs H Q => ∃ (a : Addr) (y : V) (d : PyData) (ds : List PyData), x = V.ref a ∧ xs = [y] ∧ Dp K H (V.ref a) (.list ds) ∧ Dp K H y d ∧
  SeqAt.shaped (.list ds) = true ∧ SeqAt.shaped d = true ∧ Q (.int (ds.countP (fun z => PyData.eqv z d) : Nat)) H
theorem mt_countD {X : Cx} (hu : X.A.units + 65 < cLine) : MtR X "list.count" (rCntD X.K) := by
  intro pins s σ H x xs v us Q I rx rxs h
  obtain ⟨a, y, d, ds, rfl, rfl, hl, hy, sl, sd, q⟩ := h
  cases rx
  cases rxs with
  | cons ry rt =>
    rename_i uy ut
    cases rt
    obtain ⟨bs, r1⟩ := Dp.reads I d y uy hy ry
    have hxs : PyData.canLayAll0 ds = true := SeqAt.canLay_of_shaped sl
    have hroom : X.A.units + 1 + min (PyData.depthAll ds) d.depth < cLine := room_in_shaped sd hu
    cases hl with
    | lst hs ha =>
      obtain ⟨its, rv, ⟨⟨cls, dd, data, sls⟩, n, ho, hc, hdn, hdt⟩, hlen⟩ := I.list hs
      simp only at hc hdt
      subst hc hdt
      obtain ⟨as, h4⟩ := Dp.readsAll I ds _ its ha rv
      have hmap : its.map (SeqAt.readOf s.heap) = ds := SeqAt.readsAll_map ds its as hxs h4
      refine call_meets PySem.F.slot_list_count ⟨_, ho, rfl⟩ PySem.F.entry_list_count (PySem.F.args_list_count_2 _ _)
        (SeqAt.list_countAt a its.toArray n dd sls uy (fun u => PyData.eqv (SeqAt.readOf s.heap u) d)) ⟨ho, SeqAt.items_eqAt (vs := its.toArray) (show ReadsAll s.heap its.toArray.toList ds as from h4) r1 hxs (SeqAt.canLay_of_shaped sd) hroom, ?_⟩
      refine ⟨.int (ds.countP (fun z => PyData.eqv z d) : Nat), H, I.tok _, ⟨s.toks, ?_⟩, q⟩
      show Value.int ((its.toArray.toList.countP (fun u => PyData.eqv (SeqAt.readOf s.heap u) d) : Nat) : Int) s.toks = _
      rw [← hmap, List.countP_map]
      rfl
theorem op_inDK {X : Cx} (K : PySem.W.Frag) (hu : X.A.units + 65 < cLine) (h : X.K = K := by rfl) : OpR X (compareOp .In) (rInD K) := h ▸ op_inD hu
theorem op_notInDK {X : Cx} (K : PySem.W.Frag) (hu : X.A.units + 65 < cLine) (h : X.K = K := by rfl) : OpR X (compareOp .NotIn) (rNotInD K) := h ▸ op_notInD hu
theorem mt_indexDK {X : Cx} (K : PySem.W.Frag) (hu : X.A.units + 65 < cLine) (h : X.K = K := by rfl) : MtR X "list.index" (rIndexD K) := h ▸ mt_indexD hu
theorem mt_countDK {X : Cx} (K : PySem.W.Frag) (hu : X.A.units + 65 < cLine) (h : X.K = K := by rfl) : MtR X "list.count" (rCntD K) := h ▸ mt_countD hu
/-- two lists of numbers, as data -/
theorem eqv_nats : ∀ (a b : List Nat), PyData.eqvAll (natD a) (natD b) = decide (a = b)
  | [], [] => by simp [natD, PyData.eqvAll]
  | [], b :: s => by simp [natD, PyData.eqvAll]
  | a :: r, [] => by simp [natD, PyData.eqvAll]
  | a :: r, b :: s => by
    have ih := eqv_nats r s
    have e : PyData.eqvAll (natD (a :: r)) (natD (b :: s)) = (((a : Int) == (b : Int)) && PyData.eqvAll (natD r) (natD s)) := by
      show PyData.eqvAll (PyData.int (a : Int) :: natD r) (PyData.int (b : Int) :: natD s) = _
      simp only [PyData.eqvAll, PyData.eqv]
    rw [e, ih]
    by_cases h1 : a = b
    · subst h1
      by_cases h2 : r = s
      · subst h2
        simp
      · simp [h2]
    · have h3 : ((a : Int) == (b : Int)) = false := beq_eq_false_iff_ne.mpr fun z => h1 (by omega)
      rw [h3]
      simp [h1]
theorem eqv_natT (a b : List Nat) : PyData.eqv (.tuple (natD a)) (.tuple (natD b)) = decide (a = b) := by
  simp only [PyData.eqv]
  exact eqv_nats a b
end Ef
set_option maxHeartbeats 4000000
namespace Ef
open PySem PySem.Spec PyProof.Rows L2
open PySem.W (dataLe AllAlike Sortable EachIs sorted_data sortLe_total TotalLe dataLt dataLt_tuple dataLt_ints)
/-! ### sorted of a list of data, any number of them -/
abbrev dLe : V × PyData → V × PyData → Bool := dataLe false (fun b : V × PyData => b.2)
def rSortD (K : PySem.W.Frag) : List V → Hp → VK → Prop := fun vs H Q => ∃ (a : Addr) (bs : List (V × PyData)), vs = [V.ref a] ∧ SqL K H a (bs.map (·.1)) ∧ (∀ b ∈ bs, Dp K H b.1 b.2) ∧ AllAlike (bs.map (·.2)) ∧ Sortable (bs.map (·.2)) ∧ (∀ b ∈ bs, b.2.depth ≤ 20) ∧
  ∀ p : Addr, H p = none → Q (.ref p) (upd H p (.lst ((bs.mergeSort dLe).map (·.1))))
theorem each_vals : ∀ {bs : List (V × PyData)} {us : List Value}, Vals (bs.map (·.1)) us → EachIs (fun u (b : V × PyData) => RelV b.1 u) us bs
  | [], _, .nil => .nil
  | _ :: _, _, .cons r t => .cons r (each_vals t)
theorem vals_each : ∀ {bs : List (V × PyData)} {us : List Value}, EachIs (fun u (b : V × PyData) => RelV b.1 u) us bs → Vals (bs.map (·.1)) us
  | [], _, .nil => .nil
  | _ :: _, _, .cons r t => .cons r (vals_each t)
section
variable {X : Cx} {K : PySem.W.Frag}
theorem each_reads {pins : List (Addr × Obj)} {σ : L2.St} {H : Hp} {s : Shared} (I : Inv X pins σ H s) : ∀ {bs : List (V × PyData)} {us : List Value}, (∀ b ∈ bs, Dp X.K H b.1 b.2) → EachIs (fun u (b : V × PyData) => RelV b.1 u) us bs → EachIs (fun u (b : V × PyData) => ∃ as, Reads s.heap u b.2 as) us bs
  | [], _, _, .nil => .nil
  | b :: _, _, h, .cons r t => .cons (Dp.reads I b.2 b.1 _ (h b List.mem_cons_self) r) (each_reads I (fun c hc => h c (List.mem_cons_of_mem _ hc)) t)
theorem cr_sortD (hu : X.A.units + 64 < cLine) (h : X.K = K := by rfl) : CallR X (.builtin "sorted") (rSortD K) := by
  subst h
  intro pins s σ H vs us Q I r hq
  obtain ⟨a, bs, rfl, hs, hd, hal, hk, hdp, q⟩ := hq
  obtain ⟨its, rv, hl, hz⟩ := I.list hs
  obtain ⟨u, rfl, ru⟩ := vals1 r
  obtain rfl : u = Value.ref a := ru
  have ee := each_vals rv
  have hz2 : bs.length ≤ sizeLine := by
    rw [List.length_map] at hz
    exact hz
  refine sorted_data (β := V × PyData) (bs := bs) (enc := fun b : V × PyData => b.2) (R := fun u (b : V × PyData) => RelV b.1 u) hl.isList ee (each_reads I hd ee) hal hk hz2 (fun b hb => by have := hdp b hb; omega) fun out hlen eo => ?_
  obtain ⟨n, hn⟩ := sortedAll_at s.heap its out.toArray
  refine ⟨.ref _, upd H (s.heap.objs.size + 1) (.lst ((bs.mergeSort dLe).map (·.1))), I.laid (t' := s.toks) (fun _ _ z => sortedAll_old z) (Nat.le_succ _) ⟨?_, out, n, vals_each eo, ?_⟩, rfl, q _ (I.hok.fresh (Nat.le_succ _))⟩
  · rw [List.length_map, List.length_mergeSort]
    exact hz2
  · simpa using hn
end
theorem sl_listK {X : Cx} {K : PySem.W.Frag} (h : X.K = K := by rfl) : SlR X (rSlL K) := h ▸ sl_list
def rDictP (K : PySem.W.Frag) : List V → Hp → VK → Prop := fun xs H Q => ∃ (a : Addr) (ps : List Addr) (kvs : List (Key × V)), xs = [.ref a] ∧ SqL K H a (ps.map V.ref) ∧ Paired (fun p kv => SqT K H p [kV kv.1, kv.2]) ps kvs ∧ ∀ p, H p = none → Q (.ref p) (upd H p (.dK (mergeK [] kvs)))
theorem call_dictPK {X : Cx} {K : PySem.W.Frag} (hc : X.calm = true) (h : X.K = K := by rfl) : CallR X (.type "dict") (rDictP K) := by
  subst h
  exact call_dictP hc
/-! the order -/
theorem dLe_ord : TotalLe dLe := sortLe_total _ false _
theorem dLe_trans (a b c : V × PyData) (h1 : dLe a b = true) (h2 : dLe b c = true) : dLe a c = true := dLe_ord.trans a b c h1 h2
theorem dLe_total (a b : V × PyData) : (dLe a b || dLe b a) = true := (Bool.or_eq_true _ _).mpr (dLe_ord.total a b)
theorem dsort_perm (bs : List (V × PyData)) : (bs.mergeSort dLe).Perm bs := List.mergeSort_perm bs dLe
theorem dsort_asc (bs : List (V × PyData)) : (bs.mergeSort dLe).Pairwise fun a b => dLe a b = true := List.pairwise_mergeSort dLe_trans dLe_total bs
theorem dsort_id {bs : List (V × PyData)} (h : bs.Pairwise fun a b => dLe a b = true) : bs.mergeSort dLe = bs := List.mergeSort_of_pairwise h
theorem dLe_lt (a b : V × PyData) : dLe a b = !dataLt b.2 a.2 := rfl
theorem dLe_ints {u v : V} {xs ys : List Int} : dLe (u, .tuple (xs.map .int)) (v, .tuple (ys.map .int)) = !decide (ys < xs) := by
  rw [dLe_lt]
  show (!dataLt (.tuple (ys.map .int)) (.tuple (xs.map .int))) = _
  rw [dataLt_tuple]
  exact congrArg (!·) (dataLt_ints ys xs)
end Ef
namespace Ef
open PySem PySem.Spec PyProof.Rows L2
/-! ### a comprehension within a comprehension -/
theorem lookup_map (c : Str → NameKind → Bool) (x : Str) : ∀ names : List (Str × NameKind), (names.lookup x = some .cell ∨ names.lookup x = some .free) → ((names.map fun (n, k) => if c n k = true then (n, NameKind.cell) else (n, k)).lookup x = some .cell ∨ (names.map fun (n, k) => if c n k = true then (n, NameKind.cell) else (n, k)).lookup x = some .free)
  | [], h => by simp at h
  | (n, k) :: r, h => by
    rw [List.map_cons]
    by_cases e : x == n
    · rw [List.lookup_cons, e] at h
      by_cases cc : c n k = true
      · simp only [cc, if_true]
        rw [List.lookup_cons, e]
        exact .inl rfl
      · simp only [cc, Bool.false_eq_true, if_false]
        rw [List.lookup_cons, e]
        exact h
    · have e2 : (x == n) = false := by simpa using e
      rw [List.lookup_cons, e2] at h
      have ih := lookup_map c x r h
      by_cases cc : c n k = true
      · simp only [cc, if_true]
        rw [List.lookup_cons, e2]
        exact ih
      · simp only [cc, Bool.false_eq_true, if_false]
        rw [List.lookup_cons, e2]
        exact ih
theorem blkOk_in {N : List Str} {sc scope : Scope} {own : List (Str × Nat)} {env : Env} (h : BlkOk N sc scope own) : BlkOk N (relabel sc env) scope own :=
  ⟨h.kind, h.uniq, h.ix, fun y hy e => lookup_map (fun n k => k == NameKind.free && env.scope.kind == .function && env.kindOf n == some .cell) y.1 sc.names (h.free y hy e), h.own⟩
end Ef
set_option maxHeartbeats 4000000
namespace Ef
open PySem PySem.Spec PyProof.Rows L2
/-! ### set(t) of a tuple of ints with its size, len(s) of a set -/
/-- c is the number of different ones among ns -/
def Diff (ns : List Int) (c : Nat) : Prop := ∃ ks : List Int, ks.Nodup ∧ (∀ k, k ∈ ks ↔ k ∈ ns) ∧ ks.length = c
theorem Diff.nodup {ns : List Int} {c : Nat} (h : Diff ns c) (hn : ns.Nodup) : c = ns.length := by
  obtain ⟨ks, h1, h2, rfl⟩ := h
  exact ((List.perm_ext_iff_of_nodup h1 hn).mpr h2).length_eq
theorem sub_len : ∀ {ks ns : List Int}, ks.Nodup → (∀ k ∈ ks, k ∈ ns) → ks.length ≤ ns.length
  | [], _, _, _ => Nat.zero_le _
  | k :: r, ns, h, hs => by
    have hk := hs k List.mem_cons_self
    have h1 := sub_len (ks := r) (ns := ns.erase k) (List.nodup_cons.mp h).2 fun x hx => (List.mem_erase_of_ne (fun e : x = k => (List.nodup_cons.mp h).1 (e ▸ hx))).mpr (hs x (List.mem_cons_of_mem _ hx))
    have h2 := List.length_erase_of_mem hk
    have h3 := List.length_pos_of_mem hk
    show r.length + 1 ≤ ns.length
    omega
theorem sub_perm : ∀ {ks ns : List Int}, ks.Nodup → (∀ k ∈ ks, k ∈ ns) → ns.length ≤ ks.length → ks.Perm ns
  | [], ns, _, _, h => by
    have : ns = [] := List.length_eq_zero_iff.mp (Nat.le_zero.mp h)
    rw [this]
  | k :: r, ns, h, hs, hl => by
    have hk := hs k List.mem_cons_self
    have h2 := List.length_erase_of_mem hk
    have hl2 : ns.length ≤ r.length + 1 := hl
    have h1 := sub_perm (ks := r) (ns := ns.erase k) (List.nodup_cons.mp h).2 (fun x hx => (List.mem_erase_of_ne (fun e : x = k => (List.nodup_cons.mp h).1 (e ▸ hx))).mpr (hs x (List.mem_cons_of_mem _ hx))) (by omega)
    exact (h1.cons k).trans (List.perm_cons_erase hk).symm
theorem Diff.le {ns : List Int} {c : Nat} (h : Diff ns c) : c ≤ ns.length := by
  obtain ⟨ks, h1, h2, rfl⟩ := h
  exact sub_len h1 fun k hk => (h2 k).mp hk
theorem Diff.not {ns : List Int} {c : Nat} (h : Diff ns c) (hn : ¬ ns.Nodup) : c ≠ ns.length := by
  intro e
  obtain ⟨ks, h1, h2, rfl⟩ := h
  have p : ks.Perm ns := sub_perm h1 (fun k hk => (h2 k).mp hk) (by omega)
  exact hn (p.nodup_iff.mp h1)
section
variable {X : Cx} {K : PySem.W.Frag} {w : World}
theorem setR_diff {h : Heap} {a : Addr} {ns : List Int} {c : Nat} (R : SetR w h a (fun j => decide (j ∈ ns)) c) : Diff ns c := by
  obtain ⟨o, es, ep, t, _, _, _, _, nd, mem, _, _, sz, _⟩ := R
  refine ⟨es.toList.map keyOf, nd, fun k => ?_, ?_⟩
  · rw [← mem k]
    exact decide_eq_true_iff
  · rw [List.length_map, Array.length_toList]
    exact sz
def rSetTn (K : PySem.W.Frag) (w : World) : List V → Hp → VK → Prop := fun xs H Q => ∃ (l : Addr) (ns : List Int), xs = [.ref l] ∧ (SqT K H l (ns.map V.int)) ∧ ns.length ≤ 1000 ∧
    ∀ (p : Addr) (c : Nat), H p = none → Diff ns c → Q (.ref p) (upd H p (SetO w p (fun j => decide (j ∈ ns)) c))
theorem cr_setTn (hc : X.calm = true) (h : X.K = K := by rfl) (hw : X.w = w := by rfl) : CallR X (.type "set") (rSetTn K w) := by
  subst h hw
  intro pins s σ H xs us Q I r h
  obtain ⟨l, ns, rfl, hq, hl, q⟩ := h
  obtain ⟨u, rfl, ru⟩ := vals1 r
  obtain rfl : u = Value.ref l := ru
  obtain ⟨its, rv, pt, hz⟩ := I.tuple hq
  refine call_set_tupI ns (I.ok.hd hc) (show s.heap.IsTuple l its.toArray from pt) (ints_of_vals rv) (by unfold scanBound; omega) fun h' tk c R1 hcn k => ?_
  exact ⟨.ref _, _, I.laid (t' := tk) k (Nat.le_refl _) (setO_new R1), rfl, q _ c (I.hok.fresh (Nat.le_refl _)) (setR_diff R1)⟩
def rLenSet (w : World) : List V → Hp → VK → Prop := fun xs H Q => ∃ (p : Addr) (S : Int → Bool) (c : Nat), xs = [.ref p] ∧ H p = some (SetO w p S c) ∧ Q (.int (c : Int)) H
theorem call_lenSet (hw : X.w = w := by rfl) : CallR X (.builtin "len") (rLenSet w) := by
  subst hw
  intro pins s σ H xs us Q I r h
  obtain ⟨p, S, c, rfl, hp, q⟩ := h
  obtain ⟨u, rfl, ru⟩ := vals1 r
  obtain rfl : u = Value.ref p := ru
  obtain ⟨o, es, ep, t, ho, hex, hd, _, _, _, sb, hf, hn, _⟩ := setO_get I hp
  have b : (es.size : Int) < 2 ^ 63 := by
    have : scanBound ≤ 2 ^ 62 := by unfold scanBound; decide
    omega
  exact call_len_set ho hex hd hf b ⟨.int c, H, I.tok _, ⟨_, by rw [hn]⟩, q⟩
end
end Ef
namespace Ef
/-! ### the lists ascend -/
abbrev intL (ms : List Nat) : List Int := ms.map fun (m : Nat) => (m : Int)
theorem lt_cons {a b : Int} {l m : List Int} : a :: l < b :: m ↔ a < b ∨ a = b ∧ l < m := List.cons_lt_cons_iff
/-- m is not before l -/
def LexLe (l m : List Nat) : Prop := ¬ intL m < intL l
theorem LexLe.cons_lt {a b : Nat} {l m : List Nat} (h : a < b) : LexLe (a :: l) (b :: m) := fun z => by
  have z2 : ((b : Int) :: intL m) < ((a : Int) :: intL l) := z
  rcases lt_cons.mp z2 with z | ⟨z, _⟩ <;> omega
theorem LexLe.cons_eq {a : Nat} {l m : List Nat} (h : LexLe l m) : LexLe (a :: l) (a :: m) := fun z => by
  have z2 : ((a : Int) :: intL m) < ((a : Int) :: intL l) := z
  rcases lt_cons.mp z2 with z | ⟨_, z⟩
  · omega
  · exact h z
theorem asc_lt {L : List Nat} (a : Asc L) {i j x y : Nat} (hi : L[i]? = some x) (hj : L[j]? = some y) (h : i < j) : x < y := by
  obtain ⟨a1, a2⟩ := List.getElem?_eq_some_iff.mp hi
  obtain ⟨b1, b2⟩ := List.getElem?_eq_some_iff.mp hj
  rw [← a2, ← b2]
  exact List.pairwise_iff_getElem.mp a i j a1 b1 h
theorem fol_asc {n c : Nat} : ∀ {ss L : List Nat} {r r' : Nat}, FolOk n c ss L r → FolOk n c ss L r' → Asc L → r ≤ r' → LexLe (fol n c ss L r).1 (fol n c ss L r').1
  | [], _, _, _, _, _, _, _ => fun z => by cases z
  | s :: ss, L, r, r', ⟨w0, h1, g1, o1⟩, ⟨_, h2, g2, o2⟩, a, h => by
    rw [fol_cons, fol_cons]
    have hd : r / wd n c s ≤ r' / wd n c s := Nat.div_le_div_right h
    by_cases e : r / wd n c s = r' / wd n c s
    · have m1 := Nat.div_add_mod r (wd n c s)
      have m2 := Nat.div_add_mod r' (wd n c s)
      rw [← e] at o2 m2 ⊢
      have hm : r % wd n c s ≤ r' % wd n c s := by omega
      exact LexLe.cons_eq (fol_asc o1 o2 (asc_erase a _) (by omega))
    · exact LexLe.cons_lt (asc_lt a (getD_of h1) (getD_of h2) (by omega))
theorem path_asc {n d c k k' : Nat} (h : Std n d c) (hk : k ≤ k') (hk' : k' < c) : LexLe (path n d c k).1 (path n d c k').1 :=
  fol_asc (path_ok h (by omega)) (path_ok h hk') (asc_range' n 0) hk
end Ef
set_option maxHeartbeats 4000000
namespace Ef
open PySem PySem.Spec PyProof.Rows L2 PySem.SeqAt
/-! ### != of tuples that hold the same things (by identity, where they are objects) -/
inductive SimV : V → Prop
  | non : SimV .non
  | bl (b : Bool) : SimV (.bl b)
  | int (i : Int) : SimV (.int i)
  | str (x : Str) : SimV (.str x)
  | ref (a : Addr) : SimV (.ref a)
theorem simV_eq {A : Around} {s : Shared} {v : V} {u1 u2 : Value} (h : SimV v) (r1 : RelV v u1) (r2 : RelV v u2) : EqAt A s u1 u2 true := by
  cases h with
  | non =>
    obtain rfl : u1 = Value.none := r1
    obtain rfl : u2 = Value.none := r2
    exact EqAt.same _
  | bl b =>
    obtain rfl : u1 = Value.bool b := r1
    obtain rfl : u2 = Value.bool b := r2
    exact EqAt.same _
  | int i =>
    obtain ⟨t, rfl⟩ := (show ∃ t, u1 = Value.int i t from r1)
    obtain ⟨t2, rfl⟩ := (show ∃ t, u2 = Value.int i t from r2)
    have := EqAt.int_int (A := A) (s := s) i t i t2
    rw [beq_self_eq_true] at this
    exact this
  | str x =>
    obtain ⟨t, rfl⟩ := (show ∃ t, u1 = Value.str x t from r1)
    obtain ⟨t2, rfl⟩ := (show ∃ t, u2 = Value.str x t from r2)
    have := EqAt.str_str (A := A) (s := s) x t x t2
    rw [beq_self_eq_true] at this
    exact this
  | ref a =>
    obtain rfl : u1 = Value.ref a := r1
    obtain rfl : u2 = Value.ref a := r2
    exact EqAt.same _
theorem simV_at {A : Around} {s : Shared} : ∀ {xs : List V} {us ws : List Value}, (∀ v ∈ xs, SimV v) → Vals xs us → Vals xs ws → us.length = ws.length ∧ ∀ j (h1 : j < us.length) (h2 : j < ws.length), EqAt A s us[j] ws[j] true
  | [], _, _, _, r1, r2 => by
    cases r1
    cases r2
    exact ⟨rfl, fun j h => absurd h (Nat.not_lt_zero _)⟩
  | v :: xs, _, _, h, r1, r2 => by
    cases r1 with
    | cons a1 t1 =>
      cases r2 with
      | cons a2 t2 =>
        obtain ⟨e, ih⟩ := simV_at (A := A) (s := s) (fun y hy => h y (List.mem_cons_of_mem _ hy)) t1 t2
        refine ⟨by rw [List.length_cons, List.length_cons, e], fun j h1 h2 => ?_⟩
        cases j with
        | zero => exact simV_eq (h v List.mem_cons_self) a1 a2
        | succ j => exact ih j (by simpa using h1) (by simpa using h2)
def rNeI (K : PySem.W.Frag) : R2 := fun x y H Q => ∃ (a b : Addr) (xs : List V), x = .ref a ∧ y = .ref b ∧ SqT K H a xs ∧ SqT K H b xs ∧ (∀ v ∈ xs, SimV v) ∧ Q (.bl false) H
theorem op_neI {X : Cx} (K : PySem.W.Frag) (hu : X.A.units < cLine) (hk : X.K = K := by rfl) : OpR X (compareOp .NotEq) (rNeI K) := by
  subst hk
  intro pins s σ H x y v u Q I rx ry h
  obtain ⟨a, b, xs, rfl, rfl, ha, hb, hs, q⟩ := h
  obtain rfl : v = Value.ref a := rx
  obtain rfl : u = Value.ref b := ry
  obtain ⟨i1, r1, t1, _⟩ := I.tuple ha
  obtain ⟨i2, r2, t2, _⟩ := I.tuple hb
  obtain ⟨e, he⟩ := simV_at (A := X.A.in1) (s := s) hs r1 r2
  refine RcNeAt.tuples (e := fun _ => true) t1 t2 hu (fun j h1 h2 => he j (by simpa using h1) (by simpa using h2)) _ _ _ _ ?_
  have ev : (!((List.range (min i1.toArray.size i2.toArray.size)).all (fun _ => true) && i1.toArray.size == i2.toArray.size)) = false := by
    rw [List.size_toArray, List.size_toArray, e]
    simp
  rw [ev]
  exact ⟨.bl false, H, I, rfl, q⟩
end Ef
set_option maxHeartbeats 4000000
namespace Ef
open PySem PySem.Spec PyProof.Rows L2 PySem.SeqAt
/-! ### t == () of any tuple -/
def rEqNil (K : PySem.W.Frag) : R2 := fun x y H Q => ∃ (a b : Addr) (xs : List V), x = .ref a ∧ y = .ref b ∧ SqT K H a xs ∧ SqT K H b [] ∧ Q (.bl (xs.length == 0)) H
theorem op_eqNil {X : Cx} (K : PySem.W.Frag) (hu : X.A.units < cLine) (hk : X.K = K := by rfl) : OpR X (compareOp .Eq) (rEqNil K) := by
  subst hk
  intro pins s σ H x y v u Q I rx ry h
  obtain ⟨a, b, xs, rfl, rfl, ha, hb, q⟩ := h
  obtain rfl : v = Value.ref a := rx
  obtain rfl : u = Value.ref b := ry
  obtain ⟨i1, r1, t1, _⟩ := I.tuple ha
  obtain ⟨i2, r2, t2, _⟩ := I.tuple hb
  cases r2
  have el : i1.length = xs.length := by
    have : ∀ {xs : List V} {us : List Value}, Vals xs us → us.length = xs.length := fun {xs us} r => by
      induction r with
      | nil => rfl
      | cons _ _ ih => rw [List.length_cons, List.length_cons, ih]
    exact this r1
  refine eq_tupleAt (e := fun _ => true) t1 t2 hu (fun j h1 h2 => absurd h2 (by simp)) ?_
  have ev : ((List.range (min i1.toArray.size ([] : List Value).toArray.size)).all (fun _ => true) && i1.toArray.size == ([] : List Value).toArray.size) = (xs.length == 0) := by
    rw [List.size_toArray, List.size_toArray, el]
    simp
  rw [ev]
  exact ⟨.bl _, H, I, rfl, q⟩
end Ef
set_option maxHeartbeats 4000000
namespace Ef
open PySem PySem.Spec PyProof.Rows L2
/-! ### max(xs, default=d) of a list of ints, one at least -/
theorem foldl_max : ∀ (ns : List Int) (n : Int), (ns.foldl max n = n ∨ ns.foldl max n ∈ ns) ∧ n ≤ ns.foldl max n ∧ ∀ y ∈ ns, y ≤ ns.foldl max n
  | [], n => ⟨.inl rfl, Int.le_refl _, fun _ h => absurd h List.not_mem_nil⟩
  | k :: r, n => by
    obtain ⟨h1, h2, h3⟩ := foldl_max r (max n k)
    rw [List.foldl_cons]
    have e1 : n ≤ max n k := Int.le_max_left n k
    have e2 : k ≤ max n k := Int.le_max_right n k
    refine ⟨?_, Int.le_trans e1 h2, fun y hy => ?_⟩
    · rcases h1 with h1 | h1
      · by_cases c : n ≤ k
        · rw [h1, Int.max_eq_right c]
          exact .inr List.mem_cons_self
        · rw [h1, Int.max_eq_left (by omega)]
          exact .inl rfl
      · exact .inr (List.mem_cons_of_mem _ h1)
    · rcases List.mem_cons.mp hy with rfl | hy
      · exact Int.le_trans e2 h2
      · exact h3 y hy
theorem reads_ints {h : Heap} : ∀ {ns : List Int} {us : List Value}, Vals (ns.map V.int) us → ReadsAll h us (ns.map PyData.int) []
  | [], _, r => by
    cases r
    exact .nil
  | n :: ns, _, r => by
    rw [List.map_cons] at r
    cases r with
    | cons r1 r2 =>
      obtain ⟨t, rfl⟩ := r1
      exact .cons (.int n t) (reads_ints r2)
def rMaxDf (K : PySem.W.Frag) : List V → List V → Hp → VK → Prop := fun vs zs H Q => ∃ (a : Addr) (ns : List Int) (d : V), vs = [V.ref a] ∧ zs = [d] ∧ SqL K H a (ns.map V.int) ∧ 0 < ns.length ∧ ∀ m, m ∈ ns → (∀ y, y ∈ ns → y ≤ m) → Q (.int m) H
section
variable {X : Cx}
theorem cr_maxDf (K : PySem.W.Frag) (hc : X.calm = true) (hu : X.A.units + 64 < cLine) (hk : X.K = K := by rfl) : CallRK X (.builtin "max") ["default"] (rMaxDf K) := by
  subst hk
  intro pins s σ H vs zs us ws Q I r rz h
  obtain ⟨a, ns, d, rfl, rfl, hs, hne, q⟩ := h
  obtain ⟨u, rfl, ru⟩ := vals1 r
  obtain rfl : u = Value.ref a := ru
  obtain ⟨z, rfl, rz1⟩ := vals1 rz
  obtain ⟨its, rv, hl, _⟩ := I.list hs
  have hz : PyData.depthAll (ns.map PyData.int) = 0 := PySem.W.depth_ints ns
  show wpAny _ _ (call (.builtin "max") [.ref a] [(Str.ofString "default", z)]) _ _ s
  refine PySem.W.max_list_default (I.ok.hd hc) hl.isList (by simpa using reads_ints rv) ⟨fun x hx y hy => ?_, fun x hx => ?_⟩ (by rw [hz]; omega) (fun e => ?_) fun y ys i v h' tk bs e hv hr hk' => ?_
  · obtain ⟨i, _, rfl⟩ := List.mem_map.mp hx
    obtain ⟨j, _, rfl⟩ := List.mem_map.mp hy
    rfl
  · obtain ⟨i, _, rfl⟩ := List.mem_map.mp hx
    intro z
    cases z
  · rw [List.map_eq_nil_iff.mp e] at hne
    exact absurd hne (by decide)
  · cases ns with
    | nil => exact absurd hne (by decide)
    | cons n ns =>
      rw [List.map_cons] at e
      injection e with e1 e2
      subst e1 e2
      rw [PySem.W.maxD_ints] at hr
      cases hr
      obtain ⟨m1, m2, m3⟩ := foldl_max ns n
      refine ⟨.int (ns.foldl max n), H, I.kept (t' := tk) hk', ⟨_, rfl⟩, q _ ?_ fun y hy => ?_⟩
      · rcases m1 with m1 | m1
        · rw [m1]
          exact List.mem_cons_self
        · exact List.mem_cons_of_mem _ m1
      · rcases List.mem_cons.mp hy with rfl | hy
        · exact m2
        · exact m3 y hy
end
end Ef
set_option maxHeartbeats 4000000
namespace Ef
open PySem PySem.Spec PyProof.Rows L2
/-! ### min and max of a tuple of ints, one at least -/
theorem foldl_min : ∀ (ns : List Int) (n : Int), (ns.foldl min n = n ∨ ns.foldl min n ∈ ns) ∧ ns.foldl min n ≤ n ∧ ∀ y ∈ ns, ns.foldl min n ≤ y
  | [], n => ⟨.inl rfl, Int.le_refl _, fun _ h => absurd h List.not_mem_nil⟩
  | k :: r, n => by
    obtain ⟨h1, h2, h3⟩ := foldl_min r (min n k)
    rw [List.foldl_cons]
    have e1 : min n k ≤ n := Int.min_le_left n k
    have e2 : min n k ≤ k := Int.min_le_right n k
    refine ⟨?_, Int.le_trans h2 e1, fun y hy => ?_⟩
    · rcases h1 with h1 | h1
      · by_cases c : n ≤ k
        · rw [h1, Int.min_eq_left c]
          exact .inl rfl
        · rw [h1, Int.min_eq_right (by omega)]
          exact .inr List.mem_cons_self
      · exact .inr (List.mem_cons_of_mem _ h1)
    · rcases List.mem_cons.mp hy with rfl | hy
      · exact Int.le_trans h2 e2
      · exact h3 y hy
def rMinT (K : PySem.W.Frag) : List V → Hp → VK → Prop := fun vs H Q => ∃ (a : Addr) (ns : List Int), vs = [V.ref a] ∧ SqT K H a (ns.map V.int) ∧ 0 < ns.length ∧ ∀ m, m ∈ ns → (∀ y, y ∈ ns → m ≤ y) → Q (.int m) H
def rMaxT (K : PySem.W.Frag) : List V → Hp → VK → Prop := fun vs H Q => ∃ (a : Addr) (ns : List Int), vs = [V.ref a] ∧ SqT K H a (ns.map V.int) ∧ 0 < ns.length ∧ ∀ m, m ∈ ns → (∀ y, y ∈ ns → y ≤ m) → Q (.int m) H
theorem alike_ints {ns : List Int} : PySem.W.AlikeAll (ns.map PyData.int) := ⟨fun x hx y hy => by
    obtain ⟨i, _, rfl⟩ := List.mem_map.mp hx
    obtain ⟨j, _, rfl⟩ := List.mem_map.mp hy
    rfl, fun x hx => by
    obtain ⟨i, _, rfl⟩ := List.mem_map.mp hx
    intro z
    cases z⟩
section
variable {X : Cx}
theorem cr_minT (K : PySem.W.Frag) (hc : X.calm = true) (hu : X.A.units + 64 < cLine) (hk : X.K = K := by rfl) : CallR X (.builtin "min") (rMinT K) := by
  subst hk
  intro pins s σ H vs us Q I r h
  obtain ⟨a, ns, rfl, hs, hne, q⟩ := h
  obtain ⟨u, rfl, ru⟩ := vals1 r
  obtain rfl : u = Value.ref a := ru
  obtain ⟨its, rv, hl, _⟩ := I.tuple hs
  cases ns with
  | nil => exact absurd hne (by decide)
  | cons n ns =>
    have hz : PyData.depthAll ((n :: ns).map PyData.int) = 0 := PySem.W.depth_ints _
    rw [List.map_cons] at hz
    have rd := reads_ints (h := s.heap) rv
    rw [List.map_cons] at rd
    have al := alike_ints (ns := n :: ns)
    rw [List.map_cons] at al
    refine PySem.W.min_tuple_data (x := .int n) (xs := ns.map .int) (I.ok.hd hc) hl (by simpa using rd) al (by rw [hz]; omega) fun i v h' tk bs hv hr hk' => ?_
    rw [PySem.W.minD_ints] at hr
    cases hr
    obtain ⟨m1, m2, m3⟩ := foldl_min ns n
    refine ⟨.int (ns.foldl min n), H, I.kept (t' := tk) hk', ⟨_, rfl⟩, q _ ?_ fun y hy => ?_⟩
    · rcases m1 with m1 | m1
      · rw [m1]
        exact List.mem_cons_self
      · exact List.mem_cons_of_mem _ m1
    · rcases List.mem_cons.mp hy with rfl | hy
      · exact m2
      · exact m3 y hy
theorem cr_maxT (K : PySem.W.Frag) (hc : X.calm = true) (hu : X.A.units + 64 < cLine) (hk : X.K = K := by rfl) : CallR X (.builtin "max") (rMaxT K) := by
  subst hk
  intro pins s σ H vs us Q I r h
  obtain ⟨a, ns, rfl, hs, hne, q⟩ := h
  obtain ⟨u, rfl, ru⟩ := vals1 r
  obtain rfl : u = Value.ref a := ru
  obtain ⟨its, rv, hl, _⟩ := I.tuple hs
  cases ns with
  | nil => exact absurd hne (by decide)
  | cons n ns =>
    have hz : PyData.depthAll ((n :: ns).map PyData.int) = 0 := PySem.W.depth_ints _
    rw [List.map_cons] at hz
    have rd := reads_ints (h := s.heap) rv
    rw [List.map_cons] at rd
    have al := alike_ints (ns := n :: ns)
    rw [List.map_cons] at al
    refine PySem.W.max_tuple_data (x := .int n) (xs := ns.map .int) (I.ok.hd hc) hl (by simpa using rd) al (by rw [hz]; omega) fun i v h' tk bs hv hr hk' => ?_
    rw [PySem.W.maxD_ints] at hr
    cases hr
    obtain ⟨m1, m2, m3⟩ := foldl_max ns n
    refine ⟨.int (ns.foldl max n), H, I.kept (t' := tk) hk', ⟨_, rfl⟩, q _ ?_ fun y hy => ?_⟩
    · rcases m1 with m1 | m1
      · rw [m1]
        exact List.mem_cons_self
      · exact List.mem_cons_of_mem _ m1
    · rcases List.mem_cons.mp hy with rfl | hy
      · exact m2
      · exact m3 y hy
end
end Ef
namespace Ef
/-! ### levels that are equal, and what follows for the live servers -/
def edgE (s : Nat) (r : List Nat) : List Nat × Nat := (srt (r.take s), r.getD s 0)
def cE (es : List (List Nat × Nat)) (e : List Nat × Nat) : Nat := es.countP fun a => decide (a = e)
theorem cE_app (a b : List (List Nat × Nat)) (e : List Nat × Nat) : cE (a ++ b) e = cE a e + cE b e := List.countP_append
theorem cE_perm {a b : List (List Nat × Nat)} (h : a.Perm b) (e : List Nat × Nat) : cE a e = cE b e := h.countP_eq _
theorem cE_map {α : Type} (f : α → List Nat × Nat) (e : List Nat × Nat) (l : List α) : cE (l.map f) e = l.countP fun a => decide (f a = e) := by
  unfold cE
  rw [List.countP_map]
  rfl
/-- all level numbers of the level are w -/
def Lev (n s w : Nat) (rows : List (List Nat)) : Prop := ∀ e ∈ allE n s, cE (rows.map (edgE s)) e = w
/-- rows of a table -/
def Tab (n d : Nat) (rows : List (List Nat)) : Prop := ∀ r ∈ rows, r.length = d ∧ r.Nodup ∧ ∀ x ∈ r, x < n
theorem srt_eq {a b : List Nat} (h : a.Perm b) : srt a = srt b := srt_of ((srt_perm a).trans h) (srt_le a)
theorem srt_self {a : List Nat} (h : Asc a) : srt a = a := (srt_of (List.Perm.refl a) (h.imp fun z => Nat.le_of_lt z)).symm
theorem perm_of_srt {a b : List Nat} (h : srt a = srt b) : a.Perm b := (srt_perm a).symm.trans (h ▸ srt_perm b)
theorem edgE_mem {n d s : Nat} {rows : List (List Nat)} (G : Tab n d rows) (hs : s < d) : ∀ e ∈ rows.map (edgE s), e ∈ allE n s := fun e he => by
  obtain ⟨r, hr, rfl⟩ := List.mem_map.mp he
  obtain ⟨h1, h2, h3⟩ := G r hr
  have pm := srt_perm (r.take s)
  have hlt : s < r.length := by omega
  have hx : r.getD s 0 = r[s] := by
    rw [List.getD_eq_getElem?_getD, List.getElem?_eq_getElem hlt]
    rfl
  have nd : (r.take s).Nodup := h2.sublist (List.take_sublist _ _)
  refine allE_mem ?_ ?_ (srt_asc nd) fun y hy => ?_
  · rw [hx]
    exact h3 _ (List.getElem_mem _)
  · rw [pm.length_eq, List.length_take]
    omega
  · have hy2 := pm.mem_iff.mp hy
    refine ⟨h3 y (List.mem_of_mem_take hy2), fun e => ?_⟩
    obtain ⟨i, hi⟩ := List.getElem?_of_mem hy2
    rw [List.getElem?_take] at hi
    split at hi
    · rename_i hlt2
      have h4 : r[s]? = some y := by
        rw [List.getElem?_eq_getElem hlt, e, hx]
      have := (List.getElem?_inj (show i < r.length by omega) h2).mp (hi.trans h4.symm)
      omega
    · cases hi
theorem allE_nodup (n s : Nat) : (allE n s).Nodup := by
  unfold allE
  have key : ∀ l : List Nat, l.Nodup → (l.flatMap fun x => (combs (without n x) s).map fun c => (c, x)).Nodup := by
    intro l
    induction l with
    | nil => intro _; exact List.nodup_nil
    | cons x l ih =>
      intro h
      obtain ⟨h1, h2⟩ := List.nodup_cons.mp h
      rw [List.flatMap_cons]
      refine List.nodup_append.mpr ⟨List.Pairwise.map _ (fun a b hab z => hab (congrArg Prod.fst z)) (combsNodup _ _ (asc_nodup (without_asc n x))), ih h2, fun a ha b hb e => ?_⟩
      obtain ⟨c, _, rfl⟩ := List.mem_map.mp ha
      obtain ⟨y, hy, hb⟩ := List.mem_flatMap.mp hb
      obtain ⟨c', _, rfl⟩ := List.mem_map.mp hb
      have : x = y := congrArg Prod.snd e
      exact h1 (this ▸ hy)
  exact key _ List.nodup_range
theorem sum_one' {α : Type} [DecidableEq α] {c : α} : ∀ {cs : List α}, cs.Nodup → c ∈ cs → (cs.map fun d => if c = d then 1 else 0).sum = 1
  | [], _, h => absurd h List.not_mem_nil
  | d :: cs, hn, h => by
    obtain ⟨h1, h2⟩ := List.nodup_cons.mp hn
    rw [List.map_cons, List.sum_cons]
    by_cases e : c = d
    · subst e
      have z : ∀ (l : List α), c ∉ l → (l.map fun d => if c = d then 1 else 0).sum = 0 := by
        intro l
        induction l with
        | nil => intro _; rfl
        | cons a l ih =>
          intro hh
          rw [List.map_cons, List.sum_cons, if_neg (fun z : c = a => hh (by rw [z]; exact List.mem_cons_self)), ih fun z => hh (List.mem_cons_of_mem _ z)]
      rw [if_pos rfl, z cs h1]
    · rw [if_neg e, sum_one' h2 ((List.mem_cons.mp h).resolve_left e)]
theorem sum_add' {α : Type} (f g : α → Nat) : ∀ l : List α, (l.map fun x => f x + g x).sum = (l.map f).sum + (l.map g).sum
  | [] => rfl
  | a :: l => by
    rw [List.map_cons, List.sum_cons, List.map_cons, List.sum_cons, List.map_cons, List.sum_cons, sum_add' f g l]
    omega
theorem sum_zero' {α : Type} {f : α → Nat} : ∀ {l : List α}, (∀ a ∈ l, f a = 0) → (l.map f).sum = 0
  | [], _ => rfl
  | a :: l, h => by rw [List.map_cons, List.sum_cons, h a List.mem_cons_self, sum_zero' fun b hb => h b (List.mem_cons_of_mem _ hb)]
theorem sum_congr' {α : Type} {f g : α → Nat} {l : List α} (h : ∀ a ∈ l, f a = g a) : (l.map f).sum = (l.map g).sum := by rw [List.map_congr_left h]
theorem sum_cE {cs : List (List Nat × Nat)} (hn : cs.Nodup) : ∀ {ks : List (List Nat × Nat)}, (∀ k ∈ ks, k ∈ cs) → (cs.map fun c => cE ks c).sum = ks.length
  | [], _ => sum_zero' fun _ _ => rfl
  | k :: ks, h => by
    have e : (fun c => cE (k :: ks) c) = fun c => cE ks c + if k = c then 1 else 0 := by
      funext c
      unfold cE
      rw [List.countP_cons]
      congr 1
      by_cases z : k = c
      · rw [if_pos z, if_pos (decide_eq_true z)]
      · rw [if_neg z, if_neg (fun y => z (of_decide_eq_true y))]
    rw [e, sum_add', sum_cE hn fun x hx => h x (List.mem_cons_of_mem _ hx), sum_one' hn (h k List.mem_cons_self)]
    rfl
theorem all_tight {α : Type} {f : α → Nat} {w : Nat} : ∀ {l : List α}, (∀ a ∈ l, w ≤ f a) → (l.map f).sum = l.length * w → ∀ a ∈ l, f a = w
  | [], _, _, a, ha => absurd ha List.not_mem_nil
  | b :: l, h1, h2, a, ha => by
    have hb := h1 b List.mem_cons_self
    have ge : ∀ l : List α, (∀ a ∈ l, w ≤ f a) → l.length * w ≤ (l.map f).sum := by
      intro l
      induction l with
      | nil => intro _; simp
      | cons c l ih =>
        intro h
        rw [List.map_cons, List.sum_cons, List.length_cons, Nat.succ_mul]
        have := ih fun x hx => h x (List.mem_cons_of_mem _ hx)
        have := h c List.mem_cons_self
        omega
    have hl := ge l fun x hx => h1 x (List.mem_cons_of_mem _ hx)
    rw [List.map_cons, List.sum_cons, List.length_cons, Nat.succ_mul] at h2
    rcases List.mem_cons.mp ha with rfl | ha
    · omega
    · exact all_tight (fun x hx => h1 x (List.mem_cons_of_mem _ hx)) (by omega) a ha
/-- the level's number is what it must be -/
theorem Lev.eq {n d s w : Nat} {rows : List (List Nat)} (G : Tab n d rows) (hs : s < d) (h : Lev n s w rows) : n * C (n - 1) s * w = rows.length := by
  have h1 := sum_cE (allE_nodup n s) (edgE_mem G hs)
  rw [List.length_map, sum_congr' (g := fun _ => w) fun e he => h e he] at h1
  rw [← h1, ← allE_len, List.map_const', List.sum_replicate_nat]
/-! the standard tables -/
theorem path_edge {n c d k s : Nat} (hs : s < d) : edgE s (path n d c k).1 = (srt (path n s c k).1, (folL n c (List.range' 0 s) (List.range' 0 n) k).getD ((path n s c k).2 / wd n c s) 0) := by
  unfold edgE path
  have h1 : d = s + (d - s) := by omega
  have e1 := fol_take n c k s (d - s)
  have e2 := fol_take n c k (s + 1) (d - (s + 1))
  rw [← h1] at e1
  rw [show s + 1 + (d - (s + 1)) = d by omega, range'_end, fol_snoc] at e2
  rw [e1]
  congr 1
  have l := fol_len n c (List.range' 0 s) (List.range' 0 n) k
  rw [List.length_range'] at l
  have e3 : (fol n c (List.range' 0 d) (List.range' 0 n) k).1[s]? = some ((folL n c (List.range' 0 s) (List.range' 0 n) k).getD ((fol n c (List.range' 0 s) (List.range' 0 n) k).2 / wd n c s) 0) := by
    have e4 : ((fol n c (List.range' 0 d) (List.range' 0 n) k).1.take (s + 1))[s]? = (fol n c (List.range' 0 d) (List.range' 0 n) k).1[s]? := by
      rw [List.getElem?_take, if_pos (by omega)]
    rw [← e4, e2]
    show (_ ++ [_])[s]? = _
    rw [List.getElem?_append_right (by omega), l, Nat.sub_self]
    rfl
  rw [List.getD_eq_getElem?_getD, e3]
  rfl
theorem std_lev {n d c : Nat} (st : Std n d c) {s : Nat} (hs : s < d) : Lev n s (wd n c s) ((List.range c).map fun k => (path n d c k).1) := by
  have dv := st.dvd s hs
  have w0 := wd_pos dv st.c0
  have dn := st.dn
  have G : Tab n d ((List.range c).map fun k => (path n d c k).1) := fun r hr => by
    obtain ⟨k, hk, rfl⟩ := List.mem_map.mp hr
    exact ⟨path_len n d c k, path_nodup st (List.mem_range.mp hk), path_lt st (List.mem_range.mp hk)⟩
  refine all_tight (f := fun e => cE (((List.range c).map fun k => (path n d c k).1).map (edgE s)) e) (fun e he => ?_) ?_
  · -- at least so many
    obtain ⟨x, hx, he⟩ := List.mem_flatMap.mp he
    obtain ⟨S, hS, rfl⟩ := List.mem_map.mp he
    obtain ⟨g1, g2⟩ := combs_good _ _ _ hS
    have ascS : Asc S := (without_asc n x).sublist g2
    have memS : ∀ y ∈ S, y < n ∧ y ≠ x := fun y hy => by
      have := List.mem_filter.mp (g2.subset hy)
      exact ⟨List.mem_range.mp this.1, by simpa using this.2⟩
    have hxn := List.mem_range.mp hx
    -- the servers outside
    have hL0 : Compl n S ((List.range' 0 n).filter fun y => !decide (y ∈ S)) := ⟨ascS, (asc_range' n 0).filter _, fun y hy => (memS y hy).1, fun y => by
      rw [List.mem_filter, mem_range0]
      simp⟩
    have hxL : x ∈ (List.range' 0 n).filter fun y => !decide (y ∈ S) := (hL0.mem x).mpr ⟨hxn, fun z => (memS x z).2 rfl⟩
    obtain ⟨i, hi⟩ := List.getElem?_of_mem hxL
    have lenL : ((List.range' 0 n).filter fun y => !decide (y ∈ S)).length = n - s := by
      have p : (S ++ (List.range' 0 n).filter fun y => !decide (y ∈ S)).Perm (List.range' 0 n) := by
        refine (List.perm_ext_iff_of_nodup ?_ (asc_nodup (asc_range' n 0))).mpr fun y => ?_
        · refine List.nodup_append.mpr ⟨asc_nodup ascS, (asc_nodup (asc_range' n 0)).filter _, fun a ha b hb e => ?_⟩
          subst e
          exact ((hL0.mem a).mp hb).2 ha
        · rw [List.mem_append, hL0.mem, mem_range0]
          constructor
          · rintro (h | h)
            · exact (memS y h).1
            · exact h.1
          · intro h
            by_cases c : y ∈ S
            · exact .inl c
            · exact .inr ⟨h, c⟩
      have := p.length_eq
      rw [List.length_append, List.length_range', g1] at this
      omega
    have hi2 : i < n - s := by
      rw [← lenL]
      exact (List.getElem?_eq_some_iff.mp hi).1
    have wo : c / C n s = wd n c s * (n - s) := by
      have e := wd_out dv (show s < n by omega)
      have p := C_pos n s (by omega)
      conv => lhs; rw [← e]
      exact Nat.mul_div_cancel _ p
    rw [List.map_map, cE_map, List.countP_eq_length_filter]
    have hd : ∀ k, k < s → n * C (n - 1) k ∣ c := fun k hk => st.dvd k (by omega)
    have hpl : ∀ r, r < wd n c s → Place n c s S (wd n c s * i + r) := fun r hr => ⟨ascS, fun y hy => (memS y hy).1, g1, by
      rw [wo]
      have : wd n c s * (i + 1) ≤ wd n c s * (n - s) := Nat.mul_le_mul_left _ (by omega)
      rw [Nat.mul_add, Nat.mul_one] at this
      omega⟩
    have hlen : ((List.range (wd n c s)).map fun r => (fol n c (List.range' 0 s).reverse S (wd n c s * i + r)).2).length = wd n c s := by
      rw [List.length_map, List.length_range]
    rw [← hlen]
    refine subG_len ?_ fun k hk => ?_
    · rw [List.nodup_iff_pairwise_ne]
      refine List.pairwise_map.mpr ?_
      refine List.Pairwise.imp_of_mem (R := fun a b => a ≠ b) (fun {a b} ha hb hab e => hab ?_) (List.nodup_iff_pairwise_ne.mp List.nodup_range)
      have h1 := (back_fwd st.c0 s S _ (by omega) hd (hpl a (List.mem_range.mp ha))).2.2.1
      have h2 := (back_fwd st.c0 s S _ (by omega) hd (hpl b (List.mem_range.mp hb))).2.2.1
      rw [e] at h1
      rw [h1] at h2
      omega
    · obtain ⟨r, hr, rfl⟩ := List.mem_map.mp hk
      have hr2 := List.mem_range.mp hr
      obtain ⟨b1, b2, b3, b4⟩ := back_fwd st.c0 s S _ (by omega) hd (hpl r hr2)
      refine List.mem_filter.mpr ⟨List.mem_range.mpr b1, decide_eq_true ?_⟩
      show edgE s (path n d c _).1 = _
      rw [path_edge hs]
      unfold path
      rw [b3]
      have ed : (wd n c s * i + r) / wd n c s = i := by
        rw [Nat.mul_add_div w0, Nat.div_eq_of_lt hr2, Nat.add_zero]
      rw [ed, ← b4.free, List.getD_eq_getElem?_getD, hi]
      congr 1
      exact (srt_eq b2).trans (srt_self ascS)
  · rw [sum_cE (allE_nodup n s) (edgE_mem G hs), List.length_map, List.length_map, List.length_range, allE_len, Nat.mul_comm]
    exact (wd_eq dv).symm
end Ef
namespace Ef
/-! ### equal levels share the lists evenly among the live servers -/
def lvL (L r : List Nat) : List Nat := r.filter fun x => decide (x ∈ L)
def ddL (L r : List Nat) : List Nat := r.filter fun x => !decide (x ∈ L)
theorem lvL_app (L a b : List Nat) : lvL L (a ++ b) = lvL L a ++ lvL L b := List.filter_append ..
theorem lvL_perm {L a b : List Nat} (h : a.Perm b) : (lvL L a).Perm (lvL L b) := h.filter _
theorem ddL_perm {L a b : List Nat} (h : a.Perm b) : (ddL L a).Perm (ddL L b) := h.filter _
theorem lv_dd (L : List Nat) : ∀ r : List Nat, (lvL L r ++ ddL L r).Perm r
  | [] => List.Perm.refl _
  | x :: r => by
    unfold lvL ddL
    by_cases c : x ∈ L
    · rw [List.filter_cons_of_pos (by simpa using c), List.filter_cons_of_neg (by simpa using c)]
      exact (lv_dd L r).cons x
    · rw [List.filter_cons_of_neg (by simpa using c), List.filter_cons_of_pos (by simpa using c)]
      exact List.perm_middle.trans ((lv_dd L r).cons x)
/-- where the live server with this number stands -/
theorem at_live (L : List Nat) : ∀ (r : List Nat) (q : Nat), q + 1 ≤ (lvL L r).length → ∃ s x, r[s]? = some x ∧ x ∈ L ∧ (lvL L (r.take s)).length = q ∧ (lvL L r).take (q + 1) = lvL L (r.take s) ++ [x]
  | [], q, h => by
    have : (lvL L []).length = 0 := rfl
    omega
  | y :: r, q, h => by
    by_cases c : y ∈ L
    · have e : lvL L (y :: r) = y :: lvL L r := List.filter_cons_of_pos (by simpa using c)
      cases q with
      | zero =>
        refine ⟨0, y, rfl, c, rfl, ?_⟩
        rw [e]
        rfl
      | succ q =>
        rw [e, List.length_cons] at h
        obtain ⟨s, x, h1, h2, h3, h4⟩ := at_live L r q (by omega)
        have e2 : lvL L (y :: r.take s) = y :: lvL L (r.take s) := List.filter_cons_of_pos (by simpa using c)
        refine ⟨s + 1, x, h1, h2, ?_, ?_⟩
        · rw [List.take_succ_cons, e2, List.length_cons, h3]
        · rw [List.take_succ_cons, e2, e, List.take_succ_cons, h4]
          rfl
    · have e : lvL L (y :: r) = lvL L r := List.filter_cons_of_neg (by simpa using c)
      rw [e] at h
      obtain ⟨s, x, h1, h2, h3, h4⟩ := at_live L r q h
      have e2 : lvL L (y :: r.take s) = lvL L (r.take s) := List.filter_cons_of_neg (by simpa using c)
      refine ⟨s + 1, x, h1, h2, ?_, ?_⟩
      · rw [List.take_succ_cons, e2, h3]
      · rw [List.take_succ_cons, e2, e, h4]
theorem take_one {r : List Nat} {s x : Nat} (h : r[s]? = some x) : r.take (s + 1) = r.take s ++ [x] := by
  rw [List.take_add_one, h]
  rfl
theorem live_uniq {L r : List Nat} {q s s' x x' : Nat} (h1 : r[s]? = some x) (h2 : x ∈ L) (h3 : (lvL L (r.take s)).length = q) (k1 : r[s']? = some x') (k2 : x' ∈ L) (k3 : (lvL L (r.take s')).length = q) : s = s' := by
  have key : ∀ {a b y : Nat}, r[a]? = some y → y ∈ L → (lvL L (r.take a)).length = q → (lvL L (r.take b)).length = q → ¬ a < b := by
    intro a b y g1 g2 g3 g4 hlt
    have e : r.take b = r.take (a + 1) ++ (r.take b).drop (a + 1) := by
      have := List.take_append_drop (a + 1) (r.take b)
      rw [List.take_take, Nat.min_eq_left (by omega)] at this
      exact this.symm
    rw [e, take_one g1, lvL_app, lvL_app, List.length_append, List.length_append] at g4
    have : (lvL L [y]).length = 1 := by
      unfold lvL
      rw [List.filter_cons_of_pos (by simpa using g2)]
      rfl
    omega
  have a := key h1 h2 h3 k3
  have b := key k1 k2 k3 h3
  omega
/-- all sublists -/
def subsA : List Nat → List (List Nat)
  | [] => [[]]
  | x :: r => (subsA r).map (x :: ·) ++ subsA r
theorem subsA_mem : ∀ {l c : List Nat}, c.Sublist l → c ∈ subsA l
  | [], c, h => by
    rw [List.sublist_nil.mp h]
    exact List.mem_singleton.mpr rfl
  | x :: r, c, h => by
    cases h with
    | cons _ h => exact List.mem_append_right _ (subsA_mem h)
    | cons_cons _ h => exact List.mem_append_left _ (List.mem_map.mpr ⟨_, subsA_mem h, rfl⟩)
theorem subsA_good : ∀ {l c : List Nat}, c ∈ subsA l → c.Sublist l
  | [], c, h => by
    rw [List.mem_singleton.mp h]
    exact List.Sublist.refl _
  | x :: r, c, h => by
    rcases List.mem_append.mp h with h | h
    · obtain ⟨d, hd, rfl⟩ := List.mem_map.mp h
      exact (subsA_good hd).cons_cons x
    · exact (subsA_good h).cons x
theorem subsA_nodup : ∀ {l : List Nat}, l.Nodup → (subsA l).Nodup
  | [], _ => List.nodup_cons.mpr ⟨List.not_mem_nil, List.nodup_nil⟩
  | x :: r, h => by
    obtain ⟨h1, h2⟩ := List.nodup_cons.mp h
    refine List.nodup_append.mpr ⟨List.Pairwise.map _ (fun a b hab z => hab (List.cons.inj z).2) (subsA_nodup h2), subsA_nodup h2, fun a ha b hb e => ?_⟩
    obtain ⟨c, _, rfl⟩ := List.mem_map.mp ha
    have := subsA_good hb
    rw [← e] at this
    exact h1 (this.subset List.mem_cons_self)
/-- a row and a pair: the row begins with T but x, and D, and goes on to x -/
def mtB (T : List Nat) (q : Nat) (p : List Nat × Nat) (r : List Nat) : Bool := decide (edgE (q + p.1.length) r = (srt (T.erase p.2 ++ p.1), p.2))
theorem lv_all {L a : List Nat} (h : ∀ x ∈ a, x ∈ L) : lvL L a = a := List.filter_eq_self.mpr fun x hx => by simpa using h x hx
theorem lv_none {L a : List Nat} (h : ∀ x ∈ a, x ∉ L) : lvL L a = [] := List.filter_eq_nil_iff.mpr fun x hx => by simpa using h x hx
theorem dd_all {L a : List Nat} (h : ∀ x ∈ a, x ∉ L) : ddL L a = a := List.filter_eq_self.mpr fun x hx => by simpa using h x hx
theorem dd_none {L a : List Nat} (h : ∀ x ∈ a, x ∈ L) : ddL L a = [] := List.filter_eq_nil_iff.mpr fun x hx => by simpa using h x hx
theorem ddL_app (L a b : List Nat) : ddL L (a ++ b) = ddL L a ++ ddL L b := List.filter_append ..
theorem mt_iff {L T D r : List Nat} {q x : Nat} (hT : Asc T) (hTl : T.length = q + 1) (hTL : ∀ y ∈ T, y ∈ L) (hx : x ∈ T) (hD : Asc D) (hDL : ∀ y ∈ D, y ∉ L) (hs : q + D.length < r.length) :
    mtB T q (D, x) r = true ↔ ∃ s, r[s]? = some x ∧ (lvL L (r.take s)).length = q ∧ srt (lvL L (r.take s) ++ [x]) = T ∧ srt (ddL L (r.take s)) = D := by
  have te : (T.erase x).Perm (T.erase x) := List.Perm.refl _
  have tp : (T.erase x ++ [x]).Perm T := (List.perm_append_singleton x _).trans (List.perm_cons_erase hx).symm
  have tl : (T.erase x).length = q := by
    rw [List.length_erase_of_mem hx]
    omega
  have eL : ∀ y ∈ T.erase x, y ∈ L := fun y hy => hTL y (List.mem_of_mem_erase hy)
  unfold mtB
  rw [decide_eq_true_iff]
  constructor
  · intro h
    have h1 : srt (r.take (q + D.length)) = srt (T.erase x ++ D) := congrArg Prod.fst h
    have h2 : r.getD (q + D.length) 0 = x := congrArg Prod.snd h
    have pm := perm_of_srt h1
    have hxs : r[q + D.length]? = some x := by
      rw [List.getD_eq_getElem?_getD, List.getElem?_eq_getElem hs] at h2
      rw [List.getElem?_eq_getElem hs]
      exact congrArg some h2
    have pl : (lvL L (r.take (q + D.length))).Perm (T.erase x) := by
      have := lvL_perm (L := L) pm
      rw [lvL_app, lv_all eL, lv_none hDL, List.append_nil] at this
      exact this
    have pd : (ddL L (r.take (q + D.length))).Perm D := by
      have := ddL_perm (L := L) pm
      rw [ddL_app, dd_none eL, dd_all hDL, List.nil_append] at this
      exact this
    exact ⟨q + D.length, hxs, by rw [pl.length_eq, tl], (srt_eq ((pl.append_right [x]).trans tp)).trans (srt_self hT), (srt_eq pd).trans (srt_self hD)⟩
  · rintro ⟨s, h1, h2, h3, h4⟩
    have hsl : s < r.length := (List.getElem?_eq_some_iff.mp h1).1
    have pl : (lvL L (r.take s)).Perm (T.erase x) := by
      have p1 : (lvL L (r.take s) ++ [x]).Perm T := (srt_perm _).symm.trans (h3 ▸ List.Perm.refl _)
      have p2 := p1.trans tp.symm
      exact (List.perm_append_right_iff _).mp p2
    have pd : (ddL L (r.take s)).Perm D := (srt_perm _).symm.trans (h4 ▸ List.Perm.refl _)
    have pr : (r.take s).Perm (T.erase x ++ D) := (lv_dd L _).symm.trans (pl.append pd)
    have es : s = q + D.length := by
      have := pr.length_eq
      rw [List.length_take, List.length_append, tl] at this
      omega
    subst es
    unfold edgE
    show (srt (r.take (q + D.length)), r.getD (q + D.length) 0) = _
    rw [srt_eq pr, List.getD_eq_getElem?_getD, h1]
    rfl
/-- the pairs of T -/
def prL (dead T : List Nat) : List (List Nat × Nat) := (subsA dead).flatMap fun D => T.map fun x => (D, x)
theorem prL_nodup {dead T : List Nat} (hd : dead.Nodup) (hT : T.Nodup) : (prL dead T).Nodup := by
  unfold prL
  have key : ∀ l : List (List Nat), l.Nodup → (l.flatMap fun D => T.map fun x => (D, x)).Nodup := by
    intro l
    induction l with
    | nil => intro _; exact List.nodup_nil
    | cons D l ih =>
      intro h
      obtain ⟨h1, h2⟩ := List.nodup_cons.mp h
      rw [List.flatMap_cons]
      refine List.nodup_append.mpr ⟨List.Pairwise.map _ (fun a b hab z => hab (congrArg Prod.snd z)) hT, ih h2, fun a ha b hb e => ?_⟩
      obtain ⟨c, _, rfl⟩ := List.mem_map.mp ha
      obtain ⟨D', hD', hb⟩ := List.mem_flatMap.mp hb
      obtain ⟨c', _, rfl⟩ := List.mem_map.mp hb
      have ed : D = D' := congrArg Prod.fst e
      exact h1 (by rw [ed]; exact hD')
  exact key _ (subsA_nodup hd)
theorem countP_one {α : Type} {p : α → Bool} {a : α} : ∀ {l : List α}, l.Nodup → a ∈ l → (∀ b ∈ l, (p b = true ↔ b = a)) → l.countP p = 1
  | [], _, h, _ => absurd h List.not_mem_nil
  | b :: l, hn, h, hp => by
    obtain ⟨h1, h2⟩ := List.nodup_cons.mp hn
    rw [List.countP_cons]
    by_cases e : b = a
    · subst e
      have z : l.countP p = 0 := List.countP_eq_zero.mpr fun c hc hpc => h1 (((hp c (List.mem_cons_of_mem _ hc)).mp hpc) ▸ hc)
      rw [z, if_pos ((hp b List.mem_cons_self).mpr rfl)]
    · rw [if_neg (fun z => e ((hp b List.mem_cons_self).mp z)), countP_one h2 ((List.mem_cons.mp h).resolve_left fun z => e z.symm) fun c hc => hp c (List.mem_cons_of_mem _ hc)]
theorem swap_sum {α β : Type} (m : α → β → Bool) (rows : List β) : ∀ l : List α, (l.map fun a => rows.countP (m a)).sum = (rows.map fun r => l.countP fun a => m a r).sum
  | [] => (sum_zero' fun _ _ => rfl).symm
  | a :: l => by
    rw [List.map_cons, List.sum_cons, swap_sum m rows l]
    have e : (rows.map fun r => (a :: l).countP fun a => m a r) = rows.map fun r => (l.countP fun a => m a r) + if m a r = true then 1 else 0 := List.map_congr_left fun r _ => List.countP_cons ..
    rw [e, sum_add', Nat.add_comm]
    congr 1
    induction rows with
    | nil => rfl
    | cons r rows ih =>
      rw [List.countP_cons, List.map_cons, List.sum_cons, ih (List.map_congr_left fun r _ => List.countP_cons ..)]
      omega
theorem sum_ind {β : Type} (p : β → Bool) : ∀ rows : List β, (rows.map fun r => if p r = true then 1 else 0).sum = rows.countP p
  | [] => rfl
  | r :: rows => by
    rw [List.map_cons, List.sum_cons, sum_ind p rows, List.countP_cons, Nat.add_comm]
/-- how many rows have this set of first live servers -/
def heldN (L : List Nat) (q : Nat) (rows : List (List Nat)) (T : List Nat) : Nat := rows.countP fun r => decide (srt ((lvL L r).take q) = T)
theorem held_pairs {n d q : Nat} {L dead T : List Nat} {rows : List (List Nat)} (G : Tab n d rows) (hT : Asc T) (hTl : T.length = q + 1) (hTL : ∀ y ∈ T, y ∈ L) (hdead : Asc dead) (hmem : ∀ y, y ∈ dead ↔ y < n ∧ y ∉ L)
    (hd : q + dead.length < d) (hlive : ∀ r ∈ rows, q + 1 ≤ (lvL L r).length) :
    heldN L (q + 1) rows T = ((prL dead T).map fun p => cE (rows.map (edgE (q + p.1.length))) (srt (T.erase p.2 ++ p.1), p.2)).sum := by
  have e1 : ((prL dead T).map fun p => cE (rows.map (edgE (q + p.1.length))) (srt (T.erase p.2 ++ p.1), p.2)) = (prL dead T).map fun p => rows.countP (mtB T q p) := List.map_congr_left fun p _ => cE_map _ _ _
  rw [e1, swap_sum]
  unfold heldN
  rw [← sum_ind]
  refine sum_congr' fun r hr => ?_
  obtain ⟨g1, g2, g3⟩ := G r hr
  obtain ⟨s, x, a1, a2, a3, a4⟩ := at_live L r q (hlive r hr)
  have ndT : T.Nodup := asc_nodup hT
  -- what a pair that fits is
  have fit : ∀ p ∈ prL dead T, (mtB T q p r = true ↔ srt ((lvL L r).take (q + 1)) = T ∧ p = (srt (ddL L (r.take s)), x)) := fun p hp => by
    obtain ⟨D, hD, hp⟩ := List.mem_flatMap.mp hp
    obtain ⟨y, hy, rfl⟩ := List.mem_map.mp hp
    have sD := subsA_good hD
    have ascD : Asc D := hdead.sublist sD
    have hDL : ∀ z ∈ D, z ∉ L := fun z hz => ((hmem z).mp (sD.subset hz)).2
    have hDl := sD.length_le
    rw [mt_iff hT hTl hTL hy ascD hDL (by omega), a4]
    constructor
    · rintro ⟨s', b1, b2, b3, b4⟩
      obtain rfl := live_uniq a1 a2 a3 b1 (hTL y hy) b2
      rw [a1] at b1
      obtain rfl := Option.some.inj b1
      exact ⟨b3, by rw [b4]⟩
    · rintro ⟨b1, b2⟩
      have c1 : D = srt (ddL L (r.take s)) := congrArg Prod.fst b2
      have c2 : y = x := congrArg Prod.snd b2
      subst c2
      exact ⟨s, a1, a3, b1, c1.symm⟩
  by_cases c : srt ((lvL L r).take (q + 1)) = T
  · rw [if_pos (decide_eq_true c)]
    refine (countP_one (prL_nodup (asc_nodup hdead) ndT) (a := (srt (ddL L (r.take s)), x)) ?_ fun p hp => ?_).symm
    · have hxT : x ∈ T := by
        rw [← c, a4]
        exact (srt_perm _).mem_iff.mpr (List.mem_append_right _ (List.mem_singleton.mpr rfl))
      have nd : (ddL L (r.take s)).Nodup := (g2.sublist (List.take_sublist _ _)).filter _
      have sub : (srt (ddL L (r.take s))).Sublist dead := ascSub (srt_asc nd) hdead fun y hy => by
        have h1 := List.mem_filter.mp ((srt_perm _).mem_iff.mp hy)
        exact (hmem y).mpr ⟨g3 y (List.mem_of_mem_take h1.1), by simpa using h1.2⟩
      exact List.mem_flatMap.mpr ⟨_, subsA_mem sub, List.mem_map.mpr ⟨x, hxT, rfl⟩⟩
    · rw [fit p hp]
      exact ⟨fun h => h.2, fun h => ⟨c, h⟩⟩
  · rw [if_neg (fun z => c (of_decide_eq_true z))]
    exact (List.countP_eq_zero.mpr fun p hp h => c ((fit p hp).mp h).1).symm
theorem sum_const {α : Type} (k : Nat) : ∀ l : List α, (l.map fun _ => k).sum = l.length * k
  | [] => by simp
  | a :: l => by rw [List.map_cons, List.sum_cons, sum_const k l, List.length_cons, Nat.succ_mul, Nat.add_comm]
/-- by equal levels every set of live servers holds as many lists -/
theorem held_even {n d q : Nat} {L dead T : List Nat} {rows : List (List Nat)} {w : Nat → Nat} (G : Tab n d rows) (hT : Asc T) (hTl : T.length = q + 1) (hTL : ∀ y ∈ T, y ∈ L) (hLn : ∀ y ∈ L, y < n) (hdead : Asc dead) (hmem : ∀ y, y ∈ dead ↔ y < n ∧ y ∉ L)
    (hd : q + dead.length < d) (hlive : ∀ r ∈ rows, q + 1 ≤ (lvL L r).length) (lev : ∀ s, s ≤ q + dead.length → Lev n s (w s) rows) :
    heldN L (q + 1) rows T = ((subsA dead).map fun D => (q + 1) * w (q + D.length)).sum := by
  rw [held_pairs G hT hTl hTL hdead hmem hd hlive]
  have e1 : ((prL dead T).map fun p => cE (rows.map (edgE (q + p.1.length))) (srt (T.erase p.2 ++ p.1), p.2)) = (prL dead T).map fun p => w (q + p.1.length) := List.map_congr_left fun p hp => by
    obtain ⟨D, hD, hp⟩ := List.mem_flatMap.mp hp
    obtain ⟨y, hy, rfl⟩ := List.mem_map.mp hp
    have sD := subsA_good hD
    have hDl := sD.length_le
    have pm := srt_perm (T.erase y ++ D)
    have ndT := asc_nodup hT
    have hyE : y ∉ T.erase y := fun z => (List.Nodup.mem_erase_iff ndT).mp z |>.1 rfl
    have nd : (T.erase y ++ D).Nodup := List.nodup_append.mpr ⟨ndT.sublist (List.erase_sublist), asc_nodup (hdead.sublist sD), fun a ha b hb e => by
      subst e
      exact ((hmem a).mp (sD.subset hb)).2 (hTL a (List.mem_of_mem_erase ha))⟩
    refine lev (q + D.length) (by omega) _ (allE_mem (hLn y (hTL y hy)) ?_ (srt_asc nd) fun z hz => ?_)
    · rw [pm.length_eq, List.length_append, List.length_erase_of_mem hy]
      omega
    · rcases List.mem_append.mp (pm.mem_iff.mp hz) with hz | hz
      · exact ⟨hLn z (hTL z (List.mem_of_mem_erase hz)), fun e => hyE (by rw [show y = z from e.symm]; rw [show y = z from e.symm] at hz; exact hz)⟩
      · have := (hmem z).mp (sD.subset hz)
        exact ⟨this.1, fun e => this.2 (by rw [show z = y from e]; exact hTL y hy)⟩
  rw [e1]
  unfold prL
  have key : ∀ l : List (List Nat), ((l.flatMap fun D => T.map fun x => (D, x)).map fun p => w (q + p.1.length)).sum = (l.map fun D => (q + 1) * w (q + D.length)).sum := by
    intro l
    induction l with
    | nil => rfl
    | cons D l ih =>
      rw [List.flatMap_cons, List.map_append, List.sum_append, List.map_cons, List.sum_cons, ih, List.map_map]
      congr 1
      show (T.map fun _ => w (q + D.length)).sum = _
      rw [sum_const, hTl]
  exact key _
end Ef
namespace Ef
/-! ### the shares of sets and of servers -/
theorem combs_one {cs : List (List Nat)} {k : List Nat} (hn : cs.Nodup) (h : k ∈ cs) : cs.countP (fun T => decide (k = T)) = 1 :=
  countP_one hn h fun b _ => by
    rw [decide_eq_true_iff]
    exact ⟨fun e => e.symm, fun e => e.symm⟩
/-- the set of the first live servers is one of the sets -/
theorem first_mem {n d q : Nat} {L : List Nat} {rows : List (List Nat)} (G : Tab n d rows) (aL : Asc L) (hlive : ∀ r ∈ rows, q ≤ (lvL L r).length) : ∀ r ∈ rows, srt ((lvL L r).take q) ∈ combs L q := fun r hr => by
  obtain ⟨_, g2, _⟩ := G r hr
  have nd : ((lvL L r).take q).Nodup := (g2.filter _).sublist (List.take_sublist _ _)
  have pm := srt_perm ((lvL L r).take q)
  have hl : (srt ((lvL L r).take q)).length = q := by
    rw [pm.length_eq, List.length_take]
    have := hlive r hr
    omega
  have := combs_mem L _ (ascSub (srt_asc nd) aL fun y hy => by
    have h1 := List.mem_filter.mp (List.mem_of_mem_take (pm.mem_iff.mp hy))
    exact of_decide_eq_true h1.2)
  rw [hl] at this
  exact this
theorem held_total {n d q : Nat} {L : List Nat} {rows : List (List Nat)} (G : Tab n d rows) (aL : Asc L) (hlive : ∀ r ∈ rows, q ≤ (lvL L r).length) : ((combs L q).map fun T => heldN L q rows T).sum = rows.length := by
  have e : ((combs L q).map fun T => heldN L q rows T) = (combs L q).map fun T => rows.countP ((fun T r => decide (srt ((lvL L r).take q) = T)) T) := rfl
  rw [e, swap_sum, sum_congr' (g := fun _ => 1) fun r hr => combs_one (combsNodup L q (asc_nodup aL)) (first_mem G aL hlive r hr), sum_const, Nat.mul_one]
/-- what there is to know of a live set and a factor -/
structure Live (n d q : Nat) (L : List Nat) (rows : List (List Nat)) : Prop where
  tab : Tab n d rows
  asc : Asc L
  lt : ∀ y ∈ L, y < n
  q1 : 1 ≤ q
  qL : q ≤ L.length
  fit : q + (n - L.length) ≤ d
  lev : ∀ s, s < q + (n - L.length) → ∃ w, Lev n s w rows
def deadL (n : Nat) (L : List Nat) : List Nat := (List.range' 0 n).filter fun y => !decide (y ∈ L)
theorem dead_mem {n : Nat} {L : List Nat} (y : Nat) : y ∈ deadL n L ↔ y < n ∧ y ∉ L := by
  unfold deadL
  rw [List.mem_filter, mem_range0]
  simp
theorem dead_asc (n : Nat) (L : List Nat) : Asc (deadL n L) := (asc_range' n 0).filter _
theorem live_dead {n : Nat} {L : List Nat} (aL : Asc L) (hL : ∀ y ∈ L, y < n) : L.length + (deadL n L).length = n := by
  have p : (L ++ deadL n L).Perm (List.range' 0 n) := by
    refine (List.perm_ext_iff_of_nodup ?_ (asc_nodup (asc_range' n 0))).mpr fun y => ?_
    · refine List.nodup_append.mpr ⟨asc_nodup aL, asc_nodup (dead_asc n L), fun a ha b hb e => ?_⟩
      subst e
      exact ((dead_mem a).mp hb).2 ha
    · rw [List.mem_append, dead_mem, mem_range0]
      constructor
      · rintro (h | h)
        · exact hL y h
        · exact h.1
      · intro h
        by_cases c : y ∈ L
        · exact .inl c
        · exact .inr ⟨h, c⟩
  have := p.length_eq
  rw [List.length_append, List.length_range'] at this
  exact this
/-- every list has enough live servers -/
theorem enough {n d : Nat} {L : List Nat} {rows : List (List Nat)} (G : Tab n d rows) (aL : Asc L) (hL : ∀ y ∈ L, y < n) {q : Nat} (h : q + (n - L.length) ≤ d) : ∀ r ∈ rows, q ≤ (lvL L r).length := fun r hr => by
  obtain ⟨g1, g2, g3⟩ := G r hr
  have p := (lv_dd L r).length_eq
  rw [List.length_append, g1] at p
  have h2 : (ddL L r).length ≤ (deadL n L).length := subG_len (g2.filter _) fun y hy => by
    have h1 := List.mem_filter.mp hy
    exact (dead_mem y).mpr ⟨g3 y h1.1, by simpa using h1.2⟩
  have := live_dead aL hL
  omega
theorem Live.enough {n d q : Nat} {L : List Nat} {rows : List (List Nat)} (h : Live n d q L rows) : ∀ r ∈ rows, q ≤ (lvL L r).length := Ef.enough h.tab h.asc h.lt h.fit
theorem Live.const {n d q : Nat} {L : List Nat} {rows : List (List Nat)} (h : Live n d q L rows) : ∃ F, ∀ T ∈ combs L q, heldN L q rows T = F := by
  obtain ⟨p, rfl⟩ : ∃ p, q = p + 1 := ⟨q - 1, by have := h.q1; omega⟩
  have ld := live_dead h.asc h.lt
  have hf := h.fit
  have hq := h.qL
  let w : Nat → Nat := fun s => if hs : s < p + 1 + (n - L.length) then (h.lev s hs).choose else 0
  refine ⟨((subsA (deadL n L)).map fun D => (p + 1) * w (p + D.length)).sum, fun T hT => ?_⟩
  obtain ⟨g1, g2⟩ := combs_good L (p + 1) T hT
  refine held_even h.tab (h.asc.sublist g2) g1 (fun y hy => g2.subset hy) h.lt (dead_asc n L) dead_mem (by omega) h.enough fun s hs => ?_
  have hs2 : s < p + 1 + (n - L.length) := by omega
  have e : w s = (h.lev s hs2).choose := dif_pos hs2
  rw [e]
  exact (h.lev s hs2).choose_spec
/-- every set's share -/
theorem Live.held {n d q : Nat} {L : List Nat} {rows : List (List Nat)} (h : Live n d q L rows) : ∀ T ∈ combs L q, heldN L q rows T * C L.length q = rows.length := by
  obtain ⟨F, hF⟩ := h.const
  have t := held_total h.tab h.asc h.enough
  rw [sum_congr' (g := fun _ => F) hF, sum_const, combsLen] at t
  intro T hT
  rw [hF T hT, Nat.mul_comm]
  exact t
/-- how many lists have a server among the first live ones -/
def ldN (L : List Nat) (q : Nat) (rows : List (List Nat)) (y : Nat) : Nat := rows.countP fun r => decide (y ∈ (lvL L r).take q)
theorem combs_with : ∀ (l : List Nat) (k y : Nat), l.Nodup → y ∈ l → (combs l (k + 1)).countP (fun T => decide (y ∈ T)) = C (l.length - 1) k
  | [], k, y, _, h => absurd h List.not_mem_nil
  | x :: r, k, y, hn, h => by
    obtain ⟨h1, h2⟩ := List.nodup_cons.mp hn
    show ((combs r k).map (x :: ·) ++ combs r (k + 1)).countP _ = C (r.length + 1 - 1) k
    rw [List.countP_append, List.countP_map, Nat.add_sub_cancel]
    by_cases e : y = x
    · subst e
      have a1 : (combs r k).countP ((fun T => decide (y ∈ T)) ∘ fun T => y :: T) = (combs r k).length := List.countP_eq_length.mpr fun T _ => by simp
      have a2 : (combs r (k + 1)).countP (fun T => decide (y ∈ T)) = 0 := List.countP_eq_zero.mpr fun T hT z => h1 ((combs_good r (k + 1) T hT).2.subset (of_decide_eq_true z))
      rw [a1, a2, combsLen]
      rfl
    · have hy : y ∈ r := (List.mem_cons.mp h).resolve_left e
      have rp := List.length_pos_of_mem hy
      have a1 : (combs r k).countP ((fun T => decide (y ∈ T)) ∘ fun T => x :: T) = (combs r k).countP fun T => decide (y ∈ T) := List.countP_congr fun T _ => by simp [e]
      rw [a1, combs_with r k y h2 hy]
      cases k with
      | zero =>
        rw [combs_zero]
        show 0 + C (r.length - 1) 0 = C r.length 0
        rw [C_zero, C_zero]
      | succ k =>
        rw [combs_with r k y h2 hy]
        obtain ⟨m, em⟩ : ∃ m, r.length = m + 1 := ⟨r.length - 1, by omega⟩
        rw [em]
        rfl
theorem Live.load {n d q : Nat} {L : List Nat} {rows : List (List Nat)} (h : Live n d q L rows) : ∀ y ∈ L, ldN L q rows y * L.length = rows.length * q := fun y hy => by
  obtain ⟨p, rfl⟩ : ∃ p, q = p + 1 := ⟨q - 1, by have := h.q1; omega⟩
  obtain ⟨F, hF⟩ := h.const
  have hq := h.qL
  have t := held_total h.tab h.asc h.enough
  rw [sum_congr' (g := fun _ => F) hF, sum_const, combsLen] at t
  -- the sets with this server
  have e1 : ldN L (p + 1) rows y = (((combs L (p + 1)).filter fun T => decide (y ∈ T)).map fun T => heldN L (p + 1) rows T).sum := by
    have e2 : (((combs L (p + 1)).filter fun T => decide (y ∈ T)).map fun T => heldN L (p + 1) rows T) = ((combs L (p + 1)).filter fun T => decide (y ∈ T)).map fun T => rows.countP ((fun T r => decide (srt ((lvL L r).take (p + 1)) = T)) T) := rfl
    rw [e2, swap_sum]
    unfold ldN
    rw [← sum_ind]
    refine sum_congr' fun r hr => ?_
    have hm := first_mem h.tab h.asc h.enough r hr
    have nd := (combsNodup L (p + 1) (asc_nodup h.asc)).filter fun T => decide (y ∈ T)
    have pm := srt_perm ((lvL L r).take (p + 1))
    by_cases c : y ∈ (lvL L r).take (p + 1)
    · rw [if_pos (decide_eq_true c)]
      exact (combs_one nd (List.mem_filter.mpr ⟨hm, decide_eq_true (pm.mem_iff.mpr c)⟩)).symm
    · rw [if_neg (fun z => c (of_decide_eq_true z))]
      refine (List.countP_eq_zero.mpr fun T hT z => c ?_).symm
      have hT2 := of_decide_eq_true (List.mem_filter.mp hT).2
      rw [← of_decide_eq_true z] at hT2
      exact pm.mem_iff.mp hT2
  have e3 : ((combs L (p + 1)).filter fun T => decide (y ∈ T)).length = C (L.length - 1) p := by
    rw [← List.countP_eq_length_filter]
    exact combs_with L p y (asc_nodup h.asc) hy
  rw [e1, sum_congr' (g := fun _ => F) fun T hT => hF T (List.mem_filter.mp hT).1, sum_const, e3, ← t]
  have e4 := edge_alt2 (n := L.length) (i := p) (by omega)
  rw [Nat.mul_right_comm, Nat.mul_comm (C (L.length - 1) p) L.length, ← e4, Nat.mul_right_comm]
/-! what the levels do not tell: the order of the rows, the names of the servers -/
theorem Lev.perm {n s w : Nat} {rows rows' : List (List Nat)} (p : rows'.Perm rows) (h : Lev n s w rows) : Lev n s w rows' := fun e he => (cE_perm (p.map _) e).trans (h e he)
theorem Tab.perm {n d : Nat} {rows rows' : List (List Nat)} (p : rows'.Perm rows) (h : Tab n d rows) : Tab n d rows' := fun r hr => h r (p.mem_iff.mp hr)
/-- servers renamed -/
structure Names (n : Nat) (f g : Nat → Nat) : Prop where
  fn : ∀ x, x < n → f x < n
  gn : ∀ x, x < n → g x < n
  gf : ∀ x, x < n → g (f x) = x
  fg : ∀ x, x < n → f (g x) = x
theorem names_of {n : Nat} {ns : List Nat} (p : ns.Perm (List.range' 0 n)) : Names n (fun x => ns.getD x 0) (fun y => ns.idxOf y) := by
  have hl : ns.length = n := by
    rw [p.length_eq, List.length_range']
  have nd : ns.Nodup := p.nodup_iff.mpr (asc_nodup (asc_range' n 0))
  have at_ : ∀ x, x < n → ns[x]? = some (ns.getD x 0) := fun x hx => getD_of (by omega)
  have mem : ∀ y, y < n → y ∈ ns := fun y hy => p.mem_iff.mpr (mem_range0.mpr hy)
  refine ⟨fun x hx => mem_range0.mp (p.mem_iff.mp (List.mem_of_getElem? (at_ x hx))), fun x hx => ?_, fun x hx => ?_, fun x hx => ?_⟩
  · have := List.idxOf_lt_length_of_mem (mem x hx)
    omega
  · have h1 := at_ x hx
    have h2 := idx_at (List.mem_of_getElem? h1)
    exact nodup_inj nd h2 h1
  · show ns.getD (ns.idxOf x) 0 = x
    rw [List.getD_eq_getElem?_getD, idx_at (mem x hx)]
    rfl
theorem Names.inj {n : Nat} {f g : Nat → Nat} (N : Names n f g) {a b : Nat} (ha : a < n) (hb : b < n) (e : f a = f b) : a = b := by
  rw [← N.gf a ha, ← N.gf b hb, e]
theorem Names.tab {n d : Nat} {f g : Nat → Nat} {rows : List (List Nat)} (N : Names n f g) (h : Tab n d rows) : Tab n d (rows.map fun r => r.map f) := fun r hr => by
  obtain ⟨r0, hr0, rfl⟩ := List.mem_map.mp hr
  obtain ⟨h1, h2, h3⟩ := h r0 hr0
  refine ⟨by rw [List.length_map]; exact h1, ?_, fun x hx => ?_⟩
  · refine List.pairwise_map.mpr (List.Pairwise.imp_of_mem (fun {a b} ha hb hab e => hab (N.inj (h3 a ha) (h3 b hb) e)) h2)
  · obtain ⟨y, hy, rfl⟩ := List.mem_map.mp hx
    exact N.fn y (h3 y hy)
theorem map_back {n : Nat} {f g : Nat → Nat} {l : List Nat} (hl : ∀ x ∈ l, x < n) (h : ∀ x, x < n → g (f x) = x) : (l.map f).map g = l := by
  rw [List.map_map]
  conv => rhs; rw [← List.map_id l]
  exact List.map_congr_left fun x hx => h x (hl x hx)
theorem Names.lev {n d s w : Nat} {f g : Nat → Nat} {rows : List (List Nat)} (N : Names n f g) (G : Tab n d rows) (hs : s < d) (h : Lev n s w rows) : Lev n s w (rows.map fun r => r.map f) := fun e he => by
  obtain ⟨x, hx, he⟩ := List.mem_flatMap.mp he
  obtain ⟨S, hS, rfl⟩ := List.mem_map.mp he
  obtain ⟨g1, g2⟩ := combs_good _ _ _ hS
  have hxn := List.mem_range.mp hx
  have memS : ∀ y ∈ S, y < n ∧ y ≠ x := fun y hy => by
    have := List.mem_filter.mp (g2.subset hy)
    exact ⟨List.mem_range.mp this.1, by simpa using this.2⟩
  have ascS : Asc S := (without_asc n x).sublist g2
  have hin : (srt (S.map g), g x) ∈ allE n s := by
    have pm := srt_perm (S.map g)
    have nd : (S.map g).Nodup := List.pairwise_map.mpr (List.Pairwise.imp_of_mem (fun {a b} ha hb hab e => hab (by rw [← N.fg a (memS a ha).1, ← N.fg b (memS b hb).1, e])) (asc_nodup ascS))
    refine allE_mem (N.gn x hxn) (by rw [pm.length_eq, List.length_map, g1]) (srt_asc nd) fun y hy => ?_
    obtain ⟨z, hz, rfl⟩ := List.mem_map.mp (pm.mem_iff.mp hy)
    exact ⟨N.gn z (memS z hz).1, fun e => (memS z hz).2 (by rw [← N.fg z (memS z hz).1, ← N.fg x hxn, e])⟩
  rw [← h _ hin, List.map_map, cE_map, cE_map]
  refine List.countP_congr fun r hr => ?_
  obtain ⟨h1, h2, h3⟩ := G r hr
  have hlt : s < r.length := by omega
  rw [decide_eq_true_iff, decide_eq_true_iff]
  have ex : (r.map f).getD s 0 = f (r.getD s 0) := by
    rw [List.getD_eq_getElem?_getD, List.getD_eq_getElem?_getD, List.getElem?_map, List.getElem?_eq_getElem hlt]
    rfl
  have hrs : r.getD s 0 < n := by
    rw [List.getD_eq_getElem?_getD, List.getElem?_eq_getElem hlt]
    exact h3 _ (List.getElem_mem _)
  have ht : ∀ y ∈ r.take s, y < n := fun y hy => h3 y (List.mem_of_mem_take hy)
  show edgE s (r.map f) = (S, x) ↔ edgE s r = (srt (S.map g), g x)
  unfold edgE
  rw [ex, ← List.map_take]
  constructor
  · intro e
    have e1 : srt ((r.take s).map f) = S := congrArg Prod.fst e
    have e2 : f (r.getD s 0) = x := congrArg Prod.snd e
    have p1 : ((r.take s).map f).Perm S := (srt_perm _).symm.trans (e1 ▸ List.Perm.refl _)
    have p2 := p1.map g
    rw [map_back ht N.gf] at p2
    rw [srt_eq p2, ← e2, N.gf _ hrs]
  · intro e
    have e1 : srt (r.take s) = srt (S.map g) := congrArg Prod.fst e
    have e2 : r.getD s 0 = g x := congrArg Prod.snd e
    have p2 := (perm_of_srt e1).map f
    rw [map_back (fun y hy => (memS y hy).1) N.fg] at p2
    rw [srt_eq p2, srt_self ascS, e2, N.fg x hxn]
end Ef
namespace Ef
open PySem PySem.Spec PyProof.Rows L2
/-! ### data with empty dicts in it, shown -/
mutual
inductive Dz (K : PySem.W.Frag) (H : Hp) : V → PyData → Prop
  | non : Dz K H .non .none
  | bl (b : Bool) : Dz K H (.bl b) (.bool b)
  | int (i : Int) : Dz K H (.int i) (.int i)
  | str (x : Str) : Dz K H (.str x) (.str x)
  | dic {p : Addr} : H p = some (.dK []) → Dz K H (.ref p) (.dict [])
  | tup {a : Addr} {xs : List V} {ds : List PyData} : SqT K H a xs → DzAll K H xs ds → Dz K H (.ref a) (.tuple ds)
  | lst {a : Addr} {xs : List V} {ds : List PyData} : SqL K H a xs → a ≠ sysModules → DzAll K H xs ds → Dz K H (.ref a) (.list ds)
inductive DzAll (K : PySem.W.Frag) (H : Hp) : List V → List PyData → Prop
  | nil : DzAll K H [] []
  | cons {v : V} {vs : List V} {d : PyData} {ds : List PyData} : Dz K H v d → DzAll K H vs ds → DzAll K H (v :: vs) (d :: ds)
end
section
variable {K : PySem.W.Frag} {H H' : Hp}
mutual
theorem Dz.mono (e : ∀ b o, H b = some o → (∀ ps, o ≠ .tbl ps) → H' b = some o) : ∀ {v : V} {d : PyData}, Dz K H v d → Dz K H' v d
  | _, _, .non => .non
  | _, _, .bl b => .bl b
  | _, _, .int i => .int i
  | _, _, .str x => .str x
  | _, _, .dic h => .dic (e _ _ h (fun _ z => by cases z))
  | _, _, .tup h a => .tup (by
      rcases h with (h | ⟨o, h⟩) | h
      · exact .inl (.inl (e _ _ h (fun _ z => by cases z)))
      · exact .inl (.inr ⟨o, e _ _ h (fun _ z => by cases z)⟩)
      · exact .inr h) (DzAll.mono e a)
  | _, _, .lst h n a => .lst (by
      rcases h with (h | ⟨o, h⟩) | h
      · exact .inl (.inl (e _ _ h (fun _ z => by cases z)))
      · exact .inl (.inr ⟨o, e _ _ h (fun _ z => by cases z)⟩)
      · exact .inr h) n (DzAll.mono e a)
theorem DzAll.mono (e : ∀ b o, H b = some o → (∀ ps, o ≠ .tbl ps) → H' b = some o) : ∀ {vs : List V} {ds : List PyData}, DzAll K H vs ds → DzAll K H' vs ds
  | _, _, .nil => .nil
  | _, _, .cons a b => .cons (Dz.mono e a) (DzAll.mono e b)
end
end
section
variable {X : Cx} {pins : List (Addr × Obj)} {σ : L2.St} {H : Hp} {s : Shared}
theorem dz_app {a : Addr} {xs ys : List Addr} (h1 : a ∉ xs) (h2 : a ∉ ys) : a ∉ xs ++ ys := fun z => (List.mem_append.mp z).elim h1 h2
mutual
theorem Dz.reads (I : Inv X pins σ H s) : ∀ (d : PyData) (v : V) (u : Value), Dz X.K H v d → RelV v u → ∃ as, Reads s.heap u d as ∧ sysModules ∉ as
  | .none, _, _, h, r => by
    cases h
    cases r
    exact ⟨_, Reads.none, List.not_mem_nil⟩
  | .bool b, _, _, h, r => by
    cases h
    cases r
    exact ⟨_, Reads.bool b, List.not_mem_nil⟩
  | .int i, _, _, h, r => by
    cases h
    obtain ⟨t, rfl⟩ := r
    exact ⟨_, Reads.int i t, List.not_mem_nil⟩
  | .str x, _, _, h, r => by
    cases h
    obtain ⟨t, rfl⟩ := r
    exact ⟨_, Reads.str x t, List.not_mem_nil⟩
  | .list ds, _, _, h, r => by
    cases h with
    | lst hs n ha =>
      cases r
      obtain ⟨its, rv, ⟨o, nn, ho, hc, _, hd⟩, _⟩ := I.list hs
      obtain ⟨as, hr, hn⟩ := Dz.readsAll I ds _ its ha rv
      refine ⟨_, Reads.list ho hc hd hr, fun z => ?_⟩
      rcases List.mem_cons.mp z with e | e
      · exact n e.symm
      · exact hn e
  | .tuple ds, _, _, h, r => by
    cases h with
    | tup hs ha =>
      cases r
      obtain ⟨its, rv, ⟨o, ho, hc, n, hd⟩, _⟩ := I.tuple hs
      obtain ⟨as, hr, hn⟩ := Dz.readsAll I ds _ its ha rv
      exact ⟨_, Reads.tuple ho hc hd hr, hn⟩
  | .dict kvs, _, _, h, r => by
    cases h with
    | dic hp =>
      rename_i p
      cases r
      obtain ⟨_, hsys, vs, kv, o, es, ep, ho, hx, hd, hk, hpr, hn⟩ := dk_of I.hok hp
      have e1 : vs = [] := by
        cases kv
        rfl
      subst e1
      have e2 : es.toList = [] := by
        generalize es.toList = l at hpr ⊢
        cases hpr
        rfl
      have rd : Reads s.heap (.ref p) (.dict []) (p :: [] ++ []) := by
        refine .dict ho hx.1 hd ?_ ?_
        · rw [e2]
          exact .nil
        · rw [e2]
          exact .nil
      refine ⟨_, rd, fun z => ?_⟩
      have e3 : sysModules = p := by simpa using z
      rw [← e3] at hsys
      exact absurd hsys (by simp)
theorem Dz.readsAll (I : Inv X pins σ H s) : ∀ (ds : List PyData) (vs : List V) (us : List Value), DzAll X.K H vs ds → Vals vs us → ∃ as, ReadsAll s.heap us ds as ∧ sysModules ∉ as
  | [], _, _, h, r => by
    cases h
    cases r
    exact ⟨_, ReadsAll.nil, List.not_mem_nil⟩
  | d :: ds, _, _, h, r => by
    cases h with
    | cons h1 h2 =>
      cases r with
      | cons r1 r2 =>
        obtain ⟨as, q1, n1⟩ := Dz.reads I d _ _ h1 r1
        obtain ⟨bs, q2, n2⟩ := Dz.readsAll I ds _ _ h2 r2
        exact ⟨_, ReadsAll.cons q1 q2, dz_app n1 n2⟩
end
end
/-- what may be shown: plain data, or data with empty dicts in it -/
def ShowV (K : PySem.W.Frag) (H : Hp) (v : V) (d : PyData) : Prop := (Dp K H v d ∧ Sh 60 80000 d) ∨ ∃ a, v = .ref a ∧ Dz K H v d ∧ d.showable = true ∧ d.depth ≤ 60 ∧ d.shown.length ≤ sizeLine
def rReprZ (K : PySem.W.Frag) : List V → Hp → VK → Prop := fun xs H Q => ∃ v d, xs = [v] ∧ ShowV K H v d ∧ Q (.str d.shown) H
section
variable {X : Cx} (K : PySem.W.Frag)
theorem call_reprZ (gd : X.A.guards = some []) (hu : X.A.units + 66 < cLine) (h : X.K = K := by rfl) : CallR X (.builtin "repr") (rReprZ K) := by
  subst h
  intro pins s σ H xs us Q I r h
  obtain ⟨v, d, rfl, hv, q⟩ := h
  rcases hv with ⟨hD, hS⟩ | ⟨a, rfl, hz, hsh, hdp, hsz⟩
  · exact call_reprD gd hu pins s σ H _ us Q I r ⟨v, d, rfl, hD, hS, q⟩
  · obtain ⟨u, rfl, ru⟩ := vals1 r
    obtain ⟨as, rd, hn⟩ := Dz.reads I d _ _ hz ru
    obtain rfl : u = Value.ref a := ru
    refine repr_of_reads' rd hsh (fun _ => hn) gd (by omega) (fun _ _ e => e) (fun h' u tk hk => ?_) hsz
    exact ⟨.str _, H, I.kept hk, ⟨u, rfl⟩, q⟩
end
/-! ### a list times an int, its address told -/
def rRepN : R2 := fun x y H Q => ∃ l k xs, x = .ref l ∧ y = .int k ∧ H l = some (.lst xs) ∧ 0 ≤ k ∧ k < 2 ^ 63 ∧ xs.length * k.toNat ≤ sizeLine ∧ ∀ p, H p = none → p ≠ sysModules → Q (.ref p) (upd H p (.lst (List.replicate k.toNat xs).flatten))
section
variable {X : Cx}
theorem rep_fold (its : List Value) : ∀ m : Nat, List.foldl (fun a b => a ++ b) #[] (List.replicate m its.toArray) = (List.replicate m its).flatten.toArray := fun m => by
  have z := foldl_rep its m []
  rwa [List.nil_append] at z
theorem op_repN : OpR X (binaryOp .Mult) rRepN := by
  rintro pins s σ H _ _ v u Q I rx ry ⟨l, k, xs, rfl, rfl, hl, k0, k1, size, q⟩
  obtain rfl : v = Value.ref l := rx
  obtain ⟨tk, rfl⟩ := ry
  obtain ⟨lx, its, n, rel, len, get⟩ := I.lstM hl
  have fits : its.toArray.size * k.toNat ≤ sizeLine := by
    rw [List.size_toArray, ← len]
    exact size
  have line : (sizeLine : Nat) ≤ (2 ^ 63 - 1) / 8 := by decide
  have a1 : ¬ (!Builtin.List.listFitsIndex k) = true := by
    rw [fitsIndex_both (by omega) k1]
    decide
  have a2 : ¬ its.toArray.size * k.toNat > (2 ^ 63 - 1) / 8 := Nat.not_lt.mpr (Nat.le_trans fits line)
  have a3 : ¬ Builtin.List.listTooLong (its.toArray.size * k.toNat) = true := by
    rw [notLongL fits]
    decide
  have whole : List.foldl (fun a b => a ++ b) #[] (List.replicate (if its.toArray.isEmpty = true then 0 else k.toNat) its.toArray) = (List.replicate k.toNat its).flatten.toArray := by
    rw [rep_fold]
    cases its <;> simp
  refine wpAny_binaryOp_repeat_ref (T := "list") (U := "int") (by decide) ⟨_, get, rfl⟩ (fun s' => typeIs_int s' k tk) noFill_list_mul F.fills_int_mul F.slot_int_rmul repeat_list F.slot_int_index.lookup (call_meets F.slot_int_rmul (typeIs_int s k tk) F.entry_int_rmul (F.args_int_rmul_2 _ _) (int___rmul___int_list k tk l its.toArray n) ⟨get, rfl, ⟨_, get, rfl⟩, ?_⟩)
  refine call_meets F.slot_list_mul ⟨_, get, rfl⟩ F.entry_list_mul (F.args_list_mul_2 _ _) (AutoListH.list___mul___list_int_3 l its.toArray n k tk a1 a2 a3) ⟨get, ?_⟩
  rw [whole]
  refine ⟨.ref _, _, I.lnew (t' := s.toks) (rel.rep k.toNat) ?_, rfl, q _ I.fresh (far_new I)⟩
  rw [PyProof.Rows.lm_len_rep_flat, Nat.mul_comm]
  exact size
end
end Ef
namespace Ef
open PySem PySem.Spec PyProof.Rows L2
/-! ### data with dicts {} and {0: (..)} in it, shown -/
mutual
inductive Dd (K : PySem.W.Frag) (H : Hp) : V → PyData → Prop
  | non : Dd K H .non .none
  | bl (b : Bool) : Dd K H (.bl b) (.bool b)
  | int (i : Int) : Dd K H (.int i) (.int i)
  | str (x : Str) : Dd K H (.str x) (.str x)
  | dic {p : Addr} : H p = some (.dK []) → Dd K H (.ref p) (.dict [])
  | dic1 {p t : Addr} {i : Int} {ns : List Int} : H p = some (.dK [(.inl i, .ref t)]) → SqT K H t (ns.map V.int) → Dd K H (.ref p) (.dict [(.int i, .tuple (ns.map PyData.int))])
  | tup {a : Addr} {xs : List V} {ds : List PyData} : SqT K H a xs → DdAll K H xs ds → Dd K H (.ref a) (.tuple ds)
  | lst {a : Addr} {xs : List V} {ds : List PyData} : SqL K H a xs → a ≠ sysModules → DdAll K H xs ds → Dd K H (.ref a) (.list ds)
inductive DdAll (K : PySem.W.Frag) (H : Hp) : List V → List PyData → Prop
  | nil : DdAll K H [] []
  | cons {v : V} {vs : List V} {d : PyData} {ds : List PyData} : Dd K H v d → DdAll K H vs ds → DdAll K H (v :: vs) (d :: ds)
end
section
variable {K : PySem.W.Frag} {H H' : Hp}
mutual
theorem Dd.mono (e : ∀ b o, H b = some o → (∀ ps, o ≠ .tbl ps) → H' b = some o) : ∀ {v : V} {d : PyData}, Dd K H v d → Dd K H' v d
  | _, _, .non => .non
  | _, _, .bl b => .bl b
  | _, _, .int i => .int i
  | _, _, .str x => .str x
  | _, _, .dic h => .dic (e _ _ h (fun _ z => by cases z))
  | _, _, .dic1 h a => .dic1 (e _ _ h (fun _ z => by cases z)) (by
      rcases a with (a | ⟨o, a⟩) | a
      · exact .inl (.inl (e _ _ a (fun _ z => by cases z)))
      · exact .inl (.inr ⟨o, e _ _ a (fun _ z => by cases z)⟩)
      · exact .inr a)
  | _, _, .tup h a => .tup (by
      rcases h with (h | ⟨o, h⟩) | h
      · exact .inl (.inl (e _ _ h (fun _ z => by cases z)))
      · exact .inl (.inr ⟨o, e _ _ h (fun _ z => by cases z)⟩)
      · exact .inr h) (DdAll.mono e a)
  | _, _, .lst h n a => .lst (by
      rcases h with (h | ⟨o, h⟩) | h
      · exact .inl (.inl (e _ _ h (fun _ z => by cases z)))
      · exact .inl (.inr ⟨o, e _ _ h (fun _ z => by cases z)⟩)
      · exact .inr h) n (DdAll.mono e a)
theorem DdAll.mono (e : ∀ b o, H b = some o → (∀ ps, o ≠ .tbl ps) → H' b = some o) : ∀ {vs : List V} {ds : List PyData}, DdAll K H vs ds → DdAll K H' vs ds
  | _, _, .nil => .nil
  | _, _, .cons a b => .cons (Dd.mono e a) (DdAll.mono e b)
end
end
section
variable {X : Cx} {pins : List (Addr × Obj)} {σ : L2.St} {H : Hp} {s : Shared}
theorem dd_app {a : Addr} {xs ys : List Addr} (h1 : a ∉ xs) (h2 : a ∉ ys) : a ∉ xs ++ ys := fun z => (List.mem_append.mp z).elim h1 h2
theorem reads_intsD {h : Heap} : ∀ {ns : List Int} {us : List Value}, Vals (ns.map V.int) us → ReadsAll h us (ns.map PyData.int) []
  | [], _, .nil => .nil
  | n :: ns, _, .cons r t => by
    obtain ⟨tk, rfl⟩ := r
    exact ReadsAll.cons (as := []) (bs := []) (.int n tk) (reads_intsD t)
mutual
theorem Dd.reads (I : Inv X pins σ H s) : ∀ (d : PyData) (v : V) (u : Value), Dd X.K H v d → RelV v u → ∃ as, Reads s.heap u d as ∧ sysModules ∉ as
  | .none, _, _, h, r => by
    cases h
    cases r
    exact ⟨_, Reads.none, List.not_mem_nil⟩
  | .bool b, _, _, h, r => by
    cases h
    cases r
    exact ⟨_, Reads.bool b, List.not_mem_nil⟩
  | .int i, _, _, h, r => by
    cases h
    obtain ⟨t, rfl⟩ := r
    exact ⟨_, Reads.int i t, List.not_mem_nil⟩
  | .str x, _, _, h, r => by
    cases h
    obtain ⟨t, rfl⟩ := r
    exact ⟨_, Reads.str x t, List.not_mem_nil⟩
  | .list ds, _, _, h, r => by
    cases h with
    | lst hs n ha =>
      cases r
      obtain ⟨its, rv, ⟨o, nn, ho, hc, _, hd⟩, _⟩ := I.list hs
      obtain ⟨as, hr, hn⟩ := Dd.readsAll I ds _ its ha rv
      refine ⟨_, Reads.list ho hc hd hr, fun z => ?_⟩
      rcases List.mem_cons.mp z with e | e
      · exact n e.symm
      · exact hn e
  | .tuple ds, _, _, h, r => by
    cases h with
    | tup hs ha =>
      cases r
      obtain ⟨its, rv, ⟨o, ho, hc, n, hd⟩, _⟩ := I.tuple hs
      obtain ⟨as, hr, hn⟩ := Dd.readsAll I ds _ its ha rv
      exact ⟨_, Reads.tuple ho hc hd hr, hn⟩
  | .dict kvs, _, _, h, r => by
    cases h with
    | dic hp =>
      rename_i p
      cases r
      obtain ⟨_, hsys, vs, kv, o, es, ep, ho, hx, hd, hk, hpr, hn⟩ := dk_of I.hok hp
      have e1 : vs = [] := by
        cases kv
        rfl
      subst e1
      have e2 : es.toList = [] := by
        generalize es.toList = l at hpr ⊢
        cases hpr
        rfl
      have rd : Reads s.heap (.ref p) (.dict []) (p :: [] ++ []) := by
        refine .dict ho hx.1 hd ?_ ?_
        · rw [e2]
          exact .nil
        · rw [e2]
          exact .nil
      refine ⟨_, rd, fun z => ?_⟩
      have e3 : sysModules = p := by simpa using z
      rw [← e3] at hsys
      exact absurd hsys (by simp)
    | dic1 hp ha =>
      rename_i p t i ns
      cases r
      obtain ⟨_, hsys, vs, kv, o, es, ep, ho, hx, hd, hk, hpr, hn⟩ := dk_of I.hok hp
      cases kv with
      | @cons _ q _ vs' r0 r1 =>
      cases r1
      obtain ⟨k1, u1⟩ := q
      obtain ⟨ek, ru⟩ := r0
      have ek : Sum.inl i = k1 := ek
      have ru : u1 = Value.ref t := ru
      subst ek ru
      obtain ⟨its, rv, ⟨o2, ho2, hc2, n2, hd2⟩, _⟩ := I.tuple ha
      have rt : Reads s.heap (.ref t) (.tuple (ns.map PyData.int)) [] := .tuple ho2 hc2 hd2 (by
        show ReadsAll s.heap its.toArray.toList _ _
        rw [List.toList_toArray]
        exact reads_intsD rv)
      generalize hel : es.toList = el at hpr
      cases hpr with
      | @cons e _ es' _ k1 k2 k3 =>
      cases k3
      obtain ⟨tk, ek2⟩ : ∃ tk, e.key = Value.int i tk := by
        rcases keyIs_shape (show keyIs (Sum.inl i) e.key = true from k1) with ⟨j, tj, e1, e2⟩ | ⟨x, tj, e1, e2⟩
        · cases e1
          exact ⟨tj, e2⟩
        · cases e1
      have rd : Reads s.heap (.ref p) (.dict [(.int i, .tuple (ns.map PyData.int))]) (p :: ([] ++ []) ++ ([] ++ [])) := by
        refine .dict ho hx.1 hd ?_ ?_
        · rw [hel]
          show ReadsAll s.heap [e.key] [PyData.int i] _
          rw [ek2]
          exact .cons (.int i tk) .nil
        · rw [hel]
          show ReadsAll s.heap [e.val] [PyData.tuple (ns.map PyData.int)] _
          rw [show e.val = Value.ref t from k2]
          exact .cons rt .nil
      refine ⟨_, rd, fun z => ?_⟩
      have e3 : sysModules = p := by simpa using z
      rw [← e3] at hsys
      exact absurd hsys (by simp)
theorem Dd.readsAll (I : Inv X pins σ H s) : ∀ (ds : List PyData) (vs : List V) (us : List Value), DdAll X.K H vs ds → Vals vs us → ∃ as, ReadsAll s.heap us ds as ∧ sysModules ∉ as
  | [], _, _, h, r => by
    cases h
    cases r
    exact ⟨_, ReadsAll.nil, List.not_mem_nil⟩
  | d :: ds, _, _, h, r => by
    cases h with
    | cons h1 h2 =>
      cases r with
      | cons r1 r2 =>
        obtain ⟨as, q1, n1⟩ := Dd.reads I d _ _ h1 r1
        obtain ⟨bs, q2, n2⟩ := Dd.readsAll I ds _ _ h2 r2
        exact ⟨_, ReadsAll.cons q1 q2, dd_app n1 n2⟩
end
end
/-- what may be shown: plain data, or data with empty dicts in it -/
def ShowD (K : PySem.W.Frag) (H : Hp) (v : V) (d : PyData) : Prop := (Dp K H v d ∧ Sh 60 80000 d) ∨ ∃ a, v = .ref a ∧ Dd K H v d ∧ d.showable = true ∧ d.depth ≤ 60 ∧ d.shown.length ≤ sizeLine
def rReprD2 (K : PySem.W.Frag) : List V → Hp → VK → Prop := fun xs H Q => ∃ v d, xs = [v] ∧ ShowD K H v d ∧ Q (.str d.shown) H
section
variable {X : Cx} (K : PySem.W.Frag)
theorem call_reprD2 (gd : X.A.guards = some []) (hu : X.A.units + 66 < cLine) (h : X.K = K := by rfl) : CallR X (.builtin "repr") (rReprD2 K) := by
  subst h
  intro pins s σ H xs us Q I r h
  obtain ⟨v, d, rfl, hv, q⟩ := h
  rcases hv with ⟨hD, hS⟩ | ⟨a, rfl, hz, hsh, hdp, hsz⟩
  · exact call_reprD gd hu pins s σ H _ us Q I r ⟨v, d, rfl, hD, hS, q⟩
  · obtain ⟨u, rfl, ru⟩ := vals1 r
    obtain ⟨as, rd, hn⟩ := Dd.reads I d _ _ hz ru
    obtain rfl : u = Value.ref a := ru
    refine repr_of_reads' rd hsh (fun _ => hn) gd (by omega) (fun _ _ e => e) (fun h' u tk hk => ?_) hsz
    exact ⟨.str _, H, I.kept hk, ⟨u, rfl⟩, q⟩
end
end Ef
namespace Ef
open PySem PySem.Spec PyProof.Rows L2
def topS (i : Nat) : Stmt := PySem.Challenge.pw_evenfailover_k13_tables_of_any_value.main.body.getD i (.Pass ⟨0, 0, 0, 0⟩)
abbrev sPlain : Stmt := topS 1
abbrev NPlain : List Str := ["thing"]
theorem scPlain : FnScope ["thing"] ["thing"] (defScope sPlain) := ⟨rfl, rfl, rfl, by decide +kernel, rfl, by decide +kernel, by decide +kernel⟩
abbrev sIsL : Stmt := topS 3
abbrev NIsL : List Str := ["n", "depth", "thing", "seen", "server"]
theorem scIsL : FnScope ["n", "depth", "thing", "seen", "server"] ["n", "depth", "thing"] (defScope sIsL) := ⟨rfl, rfl, rfl, by decide +kernel, rfl, by decide +kernel, by decide +kernel⟩
abbrev sIsTab : Stmt := topS 4
abbrev NIsTab : List Str := ["n", "depth", "thing", "order"]
theorem scIsTab : FnScope ["n", "depth", "thing", "order"] ["n", "depth", "thing"] (defScope sIsTab) := ⟨rfl, rfl, rfl, by decide +kernel, rfl, by decide +kernel, by decide +kernel⟩
abbrev sPot : Stmt := topS 6
abbrev NPot : List Str := ["_law_script", "_law_k", "_law_cell", "_law_own"]
theorem scPot : FnScope ["_law_script", "_law_k", "_law_cell", "_law_own"] ["_law_script", "_law_k"] (defScope sPot) := ⟨rfl, rfl, rfl, by decide +kernel, rfl, by decide +kernel, by decide +kernel⟩
abbrev sTake : Stmt := topS 7
abbrev NTake : List Str := ["_law_pot_here", "_law_size", "_law_digit", "_law_prime", "_law_mixed_here"]
theorem scTake : FnScope ["_law_pot_here", "_law_size", "_law_digit", "_law_prime", "_law_mixed_here"] ["_law_pot_here", "_law_size"] (defScope sTake) := ⟨rfl, rfl, rfl, by decide +kernel, rfl, by decide +kernel, by decide +kernel⟩
abbrev sOf : Stmt := topS 8
abbrev NOf : List Str := ["_law_pot_here", "_law_some"]
theorem scOf : FnScope ["_law_pot_here", "_law_some"] ["_law_pot_here", "_law_some"] (defScope sOf) := ⟨rfl, rfl, rfl, by decide +kernel, rfl, by decide +kernel, by decide +kernel⟩
abbrev sMixed : Stmt := topS 9
abbrev NMixed : List Str := ["_law_pot_here", "_law_some", "_law_left", "_law_found"]
theorem scMixed : FnScope ["_law_pot_here", "_law_some", "_law_left", "_law_found"] ["_law_pot_here", "_law_some"] (defScope sMixed) := ⟨rfl, rfl, rfl, by decide +kernel, rfl, by decide +kernel, by decide +kernel⟩
abbrev sOdd13 : Stmt := topS 10
abbrev NOdd13 : List Str := ["_law_pot_here", "_law_n", "_law_one", "_law_some"]
theorem scOdd13 : FnScope ["_law_pot_here", "_law_n", "_law_one", "_law_some"] ["_law_pot_here", "_law_n", "_law_one"] (defScope sOdd13) := ⟨rfl, rfl, rfl, by decide +kernel, rfl, by decide +kernel, by decide +kernel⟩
abbrev sBent13 : Stmt := topS 11
abbrev NBent13 : List Str := ["_law_pot_here", "_law_n", "_law_rows", "_law_at", "_law_spot", "_law_row", "_law_changed"]
theorem scBent13 : FnScope ["_law_pot_here", "_law_n", "_law_rows", "_law_at", "_law_spot", "_law_row", "_law_changed"] ["_law_pot_here", "_law_n", "_law_rows"] (defScope sBent13) := ⟨rfl, rfl, rfl, by decide +kernel, rfl, by decide +kernel, by decide +kernel⟩
abbrev sIsL13 : Stmt := topS 12
abbrev NIsL13 : List Str := ["_law_n", "_law_depth", "_law_one", "_law_entry"]
theorem scIsL13 : FnScope ["_law_n", "_law_depth", "_law_one", "_law_entry"] ["_law_n", "_law_depth", "_law_one"] (defScope sIsL13) := ⟨rfl, rfl, rfl, by decide +kernel, rfl, by decide +kernel, by decide +kernel⟩
abbrev sDue13 : Stmt := topS 13
abbrev NDue13 : List Str := ["_law_n", "_law_depth", "_law_value", "_law_one"]
theorem scDue13 : FnScope ["_law_n", "_law_depth", "_law_value", "_law_one"] ["_law_n", "_law_depth", "_law_value"] (defScope sDue13) := ⟨rfl, rfl, rfl, by decide +kernel, rfl, by decide +kernel, by decide +kernel⟩
abbrev sLaw : Stmt := topS 14
abbrev NLaw : List Str := ["_law_script", "_law_k", "_law_pot_here", "_law_n", "_law_depth", "_law_rows", "_law_turn", "_law_some", "_law_value", "_law_kept"]
theorem scLaw : FnScope ["_law_script", "_law_k", "_law_pot_here", "_law_n", "_law_depth", "_law_rows", "_law_turn", "_law_some", "_law_value", "_law_kept"] ["_law_script"] (defScope sLaw) := ⟨rfl, rfl, rfl, by decide +kernel, rfl, by decide +kernel, by decide +kernel⟩
/-- what stands behind the top: each def, how it binds, and that the built-ins' names are free -/
structure Txt (K : PySem.W.Frag) (mg : Str → Option Value) where
  fPlain : Addr
  fdPlain : FuncData
  FPlain : Fun K "is_plain_int" "is_plain_int" sPlain fPlain fdPlain
  bPlain : Binds K fdPlain ["thing"] []
  gPlain : mg "is_plain_int" = some (.ref fPlain)
  fIsL : Addr
  fdIsL : FuncData
  FIsL : Fun K "is_list" "is_list" sIsL fIsL fdIsL
  bIsL : Binds K fdIsL ["n", "depth", "thing"] []
  gIsL : mg "is_list" = some (.ref fIsL)
  fIsTab : Addr
  fdIsTab : FuncData
  FIsTab : Fun K "is_table" "is_table" sIsTab fIsTab fdIsTab
  bIsTab : Binds K fdIsTab ["n", "depth", "thing"] []
  gIsTab : mg "is_table" = some (.ref fIsTab)
  fPot : Addr
  fdPot : FuncData
  FPot : Fun K "_law_pot" "_law_pot" sPot fPot fdPot
  bPot : Binds K fdPot ["_law_script", "_law_k"] []
  gPot : mg "_law_pot" = some (.ref fPot)
  fTake : Addr
  fdTake : FuncData
  FTake : Fun K "_law_take" "_law_take" sTake fTake fdTake
  bTake : Binds K fdTake ["_law_pot_here", "_law_size"] []
  gTake : mg "_law_take" = some (.ref fTake)
  fOf : Addr
  fdOf : FuncData
  FOf : Fun K "_law_of" "_law_of" sOf fOf fdOf
  bOf : Binds K fdOf ["_law_pot_here", "_law_some"] []
  gOf : mg "_law_of" = some (.ref fOf)
  fMixed : Addr
  fdMixed : FuncData
  FMixed : Fun K "_law_mixed" "_law_mixed" sMixed fMixed fdMixed
  bMixed : Binds K fdMixed ["_law_pot_here", "_law_some"] []
  gMixed : mg "_law_mixed" = some (.ref fMixed)
  fOdd13 : Addr
  fdOdd13 : FuncData
  FOdd13 : Fun K "_law_odd" "_law_odd" sOdd13 fOdd13 fdOdd13
  bOdd13 : Binds K fdOdd13 ["_law_pot_here", "_law_n", "_law_one"] []
  gOdd13 : mg "_law_odd" = some (.ref fOdd13)
  fBent13 : Addr
  fdBent13 : FuncData
  FBent13 : Fun K "_law_bent" "_law_bent" sBent13 fBent13 fdBent13
  bBent13 : Binds K fdBent13 ["_law_pot_here", "_law_n", "_law_rows"] []
  gBent13 : mg "_law_bent" = some (.ref fBent13)
  fIsL13 : Addr
  fdIsL13 : FuncData
  FIsL13 : Fun K "_law_is_list" "_law_is_list" sIsL13 fIsL13 fdIsL13
  bIsL13 : Binds K fdIsL13 ["_law_n", "_law_depth", "_law_one"] []
  gIsL13 : mg "_law_is_list" = some (.ref fIsL13)
  fDue13 : Addr
  fdDue13 : FuncData
  FDue13 : Fun K "_law_due" "_law_due" sDue13 fDue13 fdDue13
  bDue13 : Binds K fdDue13 ["_law_n", "_law_depth", "_law_value"] []
  gDue13 : mg "_law_due" = some (.ref fDue13)
  n_abs : mg "abs" = none
  n_all : mg "all" = none
  n_bool : mg "bool" = none
  n_int : mg "int" = none
  n_isinstance : mg "isinstance" = none
  n_len : mg "len" = none
  n_list : mg "list" = none
  n_max : mg "max" = none
  n_min : mg "min" = none
  n_range : mg "range" = none
  n_repr : mg "repr" = none
  n_set : mg "set" = none
  n_tuple : mg "tuple" = none
/-! ### is_plain_int -/
def tyNames : List String := ["NoneType", "bool", "int", "str", "list", "tuple", "dict"]
def spPlain (K : PySem.W.Frag) : Sp := fun vs H Q _ => ∃ (v : V) (t : String), vs = [v] ∧ TyX K H v (.type t) ∧ t ∈ tyNames ∧ Q (.bl (t == "int")) H
theorem ty_cases {t : String} (h : t ∈ tyNames) : t = "NoneType" ∨ t = "bool" ∨ t = "int" ∨ t = "str" ∨ t = "list" ∨ t = "tuple" ∨ t = "dict" := by
  unfold tyNames at h
  simp only [List.mem_cons, List.not_mem_nil, or_false] at h
  exact h
theorem kit_int {K : PySem.W.Frag} {t : String} (h : t ∈ tyNames) : PySem.W.kitOne K (.type t) (.type "int") = some (t == "int" || t == "bool") := by
  rcases ty_cases h with rfl | rfl | rfl | rfl | rfl | rfl | rfl <;> exact kit_ty (by decide +kernel)
theorem kit_bool {K : PySem.W.Frag} {t : String} (h : t ∈ tyNames) : PySem.W.kitOne K (.type t) (.type "bool") = some (t == "bool") := by
  rcases ty_cases h with rfl | rfl | rfl | rfl | rfl | rfl | rfl <;> exact kit_ty (by decide +kernel)
theorem kit_tuple {K : PySem.W.Frag} {t : String} (h : t ∈ tyNames) : PySem.W.kitOne K (.type t) (.type "tuple") = some (t == "tuple") := by
  rcases ty_cases h with rfl | rfl | rfl | rfl | rfl | rfl | rfl <;> exact kit_ty (by decide +kernel)
section
variable {P : Program} {w : World} {K : PySem.W.Frag} {mg : Str → Option Value} {base : Heap}
theorem ok_plain (T : Txt K mg) {j : Nat} : FnOk P w K mg base CX0 (j + 1) T.fPlain T.fdPlain ["thing"] (spPlain K) := by
  refine T.FPlain.ok scPlain (fun vs H Q E h => ?_) (fun cdv A outer s H vs Q E hr h => ?_)
  · obtain ⟨v, t, rfl, _⟩ := h
    rfl
  · obtain ⟨v, t, rfl, ty, ht, q⟩ := h
    refine ⟨_, pss_one (ps_ret (pe_and (pe_callB call_isi (by rfl) T.n_isinstance (by decide +kernel) (pa_cons (pv 0) (pa_cons (pe_bltn (v := .ty "int") (by rfl) T.n_int (by decide +kernel) rfl) pa_nil)))
      (pe_one (pe_not (pe_callB call_isi (by rfl) T.n_isinstance (by decide +kernel) (pa_cons (pv 0) (pa_cons (pe_bltn (v := .ty "bool") (by rfl) T.n_bool (by decide +kernel) rfl) pa_nil))))))), ?_⟩
    refine ⟨v, rfl, v, .ty "int", _, _, _, rfl, .ty _, ty, kit_int ht, _, rfl, ?_⟩
    rcases ty_cases ht with rfl | rfl | rfl | rfl | rfl | rfl | rfl
    · exact iteF q
    · exact iteT ⟨v, rfl, v, .ty "bool", _, _, _, rfl, .ty _, ty, kit_bool ht, _, rfl, q⟩
    · exact iteT ⟨v, rfl, v, .ty "bool", _, _, _, rfl, .ty _, ty, kit_bool ht, _, rfl, q⟩
    · exact iteF q
    · exact iteF q
    · exact iteF q
    · exact iteF q
end
/-! ### any value, seen as whole numbers, tuples and the rest -/
inductive TD where
  | int (i : Int) | tup (ts : List TD) | oth (t : String)
mutual
inductive VT (K : PySem.W.Frag) (H : Hp) : V → TD → Prop
  | int (i : Int) : VT K H (.int i) (.int i)
  | tup {a : Addr} {xs : List V} {ts : List TD} (h : SqT K H a xs) (t : VTs K H xs ts) : VT K H (.ref a) (.tup ts)
  | oth {v : V} {t : String} (h : TyX K H v (.type t)) (m : t ∈ tyNames) (n1 : (t == "int") = false) (n2 : (t == "tuple") = false) : VT K H v (.oth t)
inductive VTs (K : PySem.W.Frag) (H : Hp) : List V → List TD → Prop
  | nil : VTs K H [] []
  | cons {v : V} {t : TD} {vs : List V} {ts : List TD} (h : VT K H v t) (r : VTs K H vs ts) : VTs K H (v :: vs) (t :: ts)
end
theorem tyx_sameA {K : PySem.W.Frag} {H H' : Hp} {v : V} {t : Value} (e : Same H H') (h : TyX K H v t) : TyX K H' v t := by
  cases h with
  | base h =>
    cases h with
    | non => exact .base .non
    | bl x => exact .base (.bl x)
    | int i => exact .base (.int i)
    | str x => exact .base (.str x)
    | flt x => exact .base (.flt x)
    | lst z => exact .base (.lst (e _ _ z))
    | frz z => exact .base (.frz (e _ _ z))
    | tup z => exact .base (.tup (e _ _ z))
    | dK z => exact .base (.dK (e _ _ z))
    | dT z => exact .base (.dT (e _ _ z))
    | ins z a1 a2 a3 a4 a5 => exact .base (.ins (e _ _ z) a1 a2 a3 a4 a5)
  | byt b => exact .byt b
  | set z => exact .set (e _ _ z)
  | kList a b => exact .kList a b
  | kTuple a b => exact .kTuple a b
  | kDict a b => exact .kDict a b
  | fTuple z => exact .fTuple (e _ _ z)
  | fDict z => exact .fDict (e _ _ z)
def tyT : TD → String
  | .int _ => "int"
  | .tup _ => "tuple"
  | .oth t => t
theorem VTs.len {K : PySem.W.Frag} {H : Hp} : ∀ {vs : List V} {ts : List TD}, VTs K H vs ts → vs.length = ts.length
  | _, _, .nil => rfl
  | _, _, .cons _ r => congrArg (· + 1) r.len
theorem VTs.at {K : PySem.W.Frag} {H : Hp} : ∀ {vs : List V} {ts : List TD} {i : Nat} {v : V}, VTs K H vs ts → vs[i]? = some v → ∃ t, ts[i]? = some t ∧ VT K H v t
  | _, _, 0, _, .cons h _, e => ⟨_, rfl, by cases e; exact h⟩
  | _, _, i + 1, _, .cons _ r, e => r.at (i := i) e
theorem VT.ty {K : PySem.W.Frag} {H : Hp} {v : V} {t : TD} (h : VT K H v t) : TyX K H v (.type (tyT t)) ∧ tyT t ∈ tyNames := by
  cases h with
  | int i => exact ⟨.base (.int i), by show "int" ∈ tyNames; decide⟩
  | tup h t =>
    refine ⟨?_, by show "tuple" ∈ tyNames; decide⟩
    rcases h with (h | ⟨o, h⟩) | ⟨o, its, n, h1, h2, _⟩
    · exact .base (.tup h)
    · exact .fTuple h
    · exact .kTuple h1 h2
  | oth h m _ _ => exact ⟨h, m⟩
/-- a list of d servers, each once -/
def lchk (n : Int) : List Int → List TD → Bool
  | _, [] => true
  | seen, .int i :: r => decide (0 ≤ i) && (decide (i < n) && (!decide (i ∈ seen) && lchk n (i :: seen) r))
  | _, _ :: _ => false
def listT (n : Int) (d : Nat) : TD → Bool
  | .tup ts => decide (ts.length = d) && lchk n [] ts
  | _ => false
def tabT (n : Int) (d : Nat) : TD → Bool
  | .tup ts => !ts.isEmpty && ts.all (listT n d)
  | _ => false
theorem lchk_no {n : Int} {seen : List Int} {t : TD} {r : List TD} (h : ∀ i, t ≠ .int i) : lchk n seen (t :: r) = false := by
  cases t with
  | int i => exact absurd rfl (h i)
  | tup _ => rfl
  | oth _ => rfl
theorem dropT {ds : List TD} {i : Nat} {d : TD} (h : ds[i]? = some d) : ds.drop i = d :: ds.drop (i + 1) := by
  obtain ⟨hl, e⟩ := List.getElem?_eq_some_iff.mp h
  rw [List.drop_eq_getElem_cons hl, e]
/-! ### is_list of any value -/
def spIsL (K : PySem.W.Frag) : Sp := fun vs H Q _ => ∃ (n : Int) (d : Nat) (v : V) (t : TD), vs = [.int n, .int d, v] ∧ VT K H v t ∧ d ≤ 60 ∧ ∀ H', Same H H' → Q (.bl (listT n d t)) H'
section
variable {P : Program} {w : World} {K : PySem.W.Frag} {mg : Str → Option Value} {base : Heap}
theorem ok_isl (T : Txt K mg) {j : Nat} : FnOk P w K mg base CX0 (j + 2) T.fIsL T.fdIsL ["n", "depth", "thing"] (spIsL K) := by
  refine T.FIsL.ok scIsL (fun vs H Q E h => ?_) (fun cdv A outer s H vs Q E hr h => ?_)
  · obtain ⟨n, d, v, t, rfl, _⟩ := h
    rfl
  · obtain ⟨n, d, v, t, rfl, hv, hd, q⟩ := h
    refine ⟨_, C8.pss_cut (ps_if (PW.pt (pw_or (pt_not (pt_val (pe_callB (call_isiK1 K) (by rfl) T.n_isinstance (by decide +kernel) (pa_cons (pv 2) (pa_cons (pe_bltn (v := .ty "tuple") (by rfl) T.n_tuple (by decide +kernel) rfl) pa_nil))))) (pw_or1 (pt_cmpR op_ne (pe_callB (call_lenK K) (by rfl) T.n_len PySem.boot_len (pa_cons (pv 2) pa_nil)) (pv 1) (nomark _))))) (pss_one (ps_ret pe_bl)) pss_nil) (pss_cons (ps_set (i := 3) scIsL.nd rfl (.inl rfl) (pe_callTy0 cr_set0 (by rfl) T.n_set (by decide +kernel))) (pss_cons (ps_for PassesOwn.never rfl (pi_tup (pv 2)) (pg_name (i := 4) scIsL.nd rfl (.inl rfl)) (pss_cons (ps_if (PW.pt (pw_or (pt_not (pt_val (pe_call (ok_plain T) hr (by rfl) T.gPlain T.FPlain.kp T.bPlain .nil pass0 (pa_cons (pv 4) pa_nil)))) (pw_or (pt_cmpR op_lt (pv 4) pe_int (nomark _)) (pw_or (pt_cmpR op_ge (pv 4) (pv 0) (nomark _)) (pw_or1 (pt_cmpR or_sin (pv 4) (pv 3) (by rfl))))))) (pss_one (ps_ret pe_bl)) pss_nil) (pss_one (ps_expr (pe_sadd (pv 3) (pa_cons (pv 4) pa_nil)))))) (pss_one (ps_ret pe_bl)))), ?_⟩
    obtain ⟨ty, tm⟩ := hv.ty
    refine ⟨fun σ H1 => σ = [some (.int n), some (.int (d : Int)), some v, none, none] ∧ H1 = H ∧ ∃ ts, t = .tup ts ∧ ts.length = d, ?_, ?_⟩
    · refine ⟨v, rfl, v, .ty "tuple", _, _, _, rfl, .ty _, ty, kit_tuple tm, _, rfl, ?_⟩
      cases hv with
      | int i => exact iteT (iteT (q H (Same.refl H)))
      | oth h m n1 n2 =>
        rename_i t0
        rw [show (tyT (TD.oth t0) == "tuple") = false from n2]
        exact iteT (iteT (q H (Same.refl H)))
      | tup h r =>
        rename_i a xs ts
        refine iteF ?_
        refine ⟨.ref a, rfl, a, _, rfl, .inr h, _, rfl, rfl, _, rfl, ?_⟩
        rw [r.len]
        refine ite2 (fun z => ?_) (fun z => ?_)
        · have ne : ¬ ts.length = d := fun e => by
            rw [e] at z
            simp at z
          have q2 := q H (Same.refl H)
          rw [show listT n d (.tup ts) = false by show (decide (ts.length = d) && _) = false; rw [decide_eq_false ne]; rfl] at q2
          exact q2
        · refine ⟨rfl, rfl, ts, rfl, ?_⟩
          refine Classical.byContradiction fun ne => z ?_
          rw [decide_eq_false (fun e => ne (by injection e with e; omega))]
          rfl
    rintro σ H1 ⟨rfl, rfl, ts, rfl, hl⟩
    obtain ⟨a, xs, rfl, h, r⟩ : ∃ a xs, v = .ref a ∧ SqT K H1 a xs ∧ VTs K H1 xs ts := by
      cases hv with
      | tup h r => exact ⟨_, _, rfl, h, r⟩
    refine ⟨rfl, fun S nS => ?_⟩
    have q2 : ∀ H', Same H1 H' → Q (.bl (lchk n [] ts)) H' := fun H' s' => by
      have := q H' s'
      rw [show listT n d (.tup ts) = lchk n [] ts by show (decide (ts.length = d) && _) = _; rw [decide_eq_true hl]; rfl] at this
      exact this
    have xl := r.len
    refine ⟨.ref a, rfl, a, rfl, ⟨_, Same.seqT (same_new nS) h⟩, for_tup (K := K) (a := a) (xs := xs) (fun i σ H2 => ∃ (u : Option V) (seen : List Int) (g : Int → Bool) (m : Nat), σ = [some (.int n), some (.int (d : Int)), some (.ref a), some (.ref S), u] ∧ Same H1 H2 ∧ H2 S = some (SetO w S g m) ∧ (∀ j, g j = decide (j ∈ seen)) ∧ m ≤ i ∧ lchk n [] ts = lchk n seen (ts.drop i)) ⟨none, [], _, 0, rfl, same_new nS, upd_same, fun j => rfl, Nat.le_refl _, rfl⟩ (fun i σ H2 _ ⟨_, _, _, _, _, s2, _⟩ => Same.seqT s2 h) ?_ ?_⟩
    · rintro i x σ H2 hi ⟨u, seen, g, m, rfl, s2, hS, hg, hm, ec⟩
      have hi2 : i < xs.length := (List.getElem?_eq_some_iff.mp hi).1
      obtain ⟨t, ht, hT⟩ := r.at hi
      rw [dropT ht] at ec
      obtain ⟨ty1, tm1⟩ := hT.ty
      refine ⟨x, rfl, x, tyT t, rfl, tyx_sameA s2 ty1, tm1, _, rfl, ?_⟩
      have q3 := q2 H2 s2
      cases hT with
      | tup h r =>
        rw [ec] at q3
        exact iteT (iteT q3)
      | oth h m n1 n2 =>
        rename_i t0
        rw [show (tyT (TD.oth t0) == "int") = false from n1]
        rw [ec] at q3
        exact iteT (iteT q3)
      | int z =>
        rw [show lchk n seen (.int z :: ts.drop (i + 1)) = (decide (0 ≤ z) && (decide (z < n) && (!decide (z ∈ seen) && lchk n (z :: seen) (ts.drop (i + 1))))) from rfl] at ec
        refine iteF ?_
        refine ⟨_, rfl, _, _, rfl, rfl, _, rfl, ite2 (fun h1 => ?_) (fun h1 => ?_)⟩
        · have h2 : z < 0 := of_decide_eq_true h1
          rw [decide_eq_false (show ¬ 0 ≤ z by omega)] at ec
          rw [ec] at q3
          exact iteT q3
        · have h2 : ¬ z < 0 := fun y => h1 (decide_eq_true y)
          rw [decide_eq_true (show 0 ≤ z by omega), Bool.true_and] at ec
          refine ⟨_, rfl, _, rfl, _, _, rfl, rfl, _, rfl, ite2 (fun h3 => ?_) (fun h3 => ?_)⟩
          · have h4 : n ≤ z := of_decide_eq_true h3
            rw [decide_eq_false (show ¬ z < n by omega)] at ec
            rw [ec] at q3
            exact iteT q3
          · have h4 : ¬ n ≤ z := fun y => h3 (decide_eq_true y)
            rw [decide_eq_true (show z < n by omega), Bool.true_and] at ec
            refine ⟨_, rfl, _, rfl, z, S, g, m, rfl, rfl, hS, _, rfl, ?_⟩
            rw [hg z]
            refine ite2 (fun h5 => ?_) (fun h5 => ?_)
            · rw [h5] at ec
              rw [ec] at q3
              exact q3
            · have h6 : decide (z ∈ seen) = false := by simpa using h5
              rw [h6] at ec
              refine ⟨.ref S, rfl, ⟨S, g, m, rfl, hS⟩, _, rfl, S, z, g, m, rfl, rfl, hS, by show m + 1 < 4096; omega, ?_⟩
              refine ⟨_, z :: seen, _, _, rfl, keep_upd s2 nS, upd_same, fun j => ?_, ?_, ec⟩
              · show (g j || decide (j = z)) = _
                rw [hg j]
                by_cases e : j = z <;> simp [e]
              · split <;> omega
    · rintro σ H2 ⟨u, seen, g, m, rfl, s2, hS, hg, hm, ec⟩
      rw [xl, List.drop_length] at ec
      have q3 := q2 H2 s2
      rw [ec] at q3
      exact q3
end
/-! ### is_table of any value -/
mutual
theorem VT.same {K : PySem.W.Frag} {H H' : Hp} (s : Same H H') : ∀ {v : V} {t : TD}, VT K H v t → VT K H' v t
  | _, _, .int i => .int i
  | _, _, .tup h t => .tup (Same.seqT s h) (VTs.same s t)
  | _, _, .oth h m n1 n2 => .oth (tyx_sameA s h) m n1 n2
theorem VTs.same {K : PySem.W.Frag} {H H' : Hp} (s : Same H H') : ∀ {vs : List V} {ts : List TD}, VTs K H vs ts → VTs K H' vs ts
  | _, _, .nil => .nil
  | _, _, .cons h r => .cons (VT.same s h) (VTs.same s r)
end
def spIsTab (K : PySem.W.Frag) : Sp := fun vs H Q _ => ∃ (n : Int) (d : Nat) (v : V) (t : TD), vs = [.int n, .int d, v] ∧ VT K H v t ∧ d ≤ 60 ∧ ∀ H', Same H H' → Q (.bl (tabT n d t)) H'
section
variable {P : Program} {w : World} {K : PySem.W.Frag} {mg : Str → Option Value} {base : Heap}
theorem ok_istab (T : Txt K mg) {j : Nat} : FnOk P w K mg base CX0 (j + 3) T.fIsTab T.fdIsTab ["n", "depth", "thing"] (spIsTab K) := by
  refine T.FIsTab.ok scIsTab (fun vs H Q E h => ?_) (fun cdv A outer s H vs Q E hr h => ?_)
  · obtain ⟨n, d, v, t, rfl, _⟩ := h
    rfl
  · obtain ⟨n, d, v, t, rfl, hv, hd, q⟩ := h
    refine ⟨_, C8.pss_cut (ps_if (PW.pt (pw_or (pt_not (pt_val (pe_callB (call_isiK1 K) (by rfl) T.n_isinstance (by decide +kernel) (pa_cons (pv 2) (pa_cons (pe_bltn (v := .ty "tuple") (by rfl) T.n_tuple (by decide +kernel) rfl) pa_nil))))) (pw_or1 (pt_cmpR op_eq (pe_callB (call_lenK K) (by rfl) T.n_len PySem.boot_len (pa_cons (pv 2) pa_nil)) pe_int (nomark _))))) (pss_one (ps_ret pe_bl)) pss_nil) (pss_cons (ps_for PassesOwn.never rfl (pi_tup (pv 2)) (pg_name (i := 3) scIsTab.nd rfl (.inl rfl)) (pss_one (ps_if (pt_not (pt_val (pe_call (ok_isl T) hr (by rfl) T.gIsL T.FIsL.kp T.bIsL .nil pass0 (pa_cons (pv 0) (pa_cons (pv 1) (pa_cons (pv 3) pa_nil)))))) (pss_one (ps_ret pe_bl)) pss_nil))) (pss_one (ps_ret pe_bl))), ?_⟩
    obtain ⟨ty, tm⟩ := hv.ty
    refine ⟨fun σ H1 => σ = [some (.int n), some (.int (d : Int)), some v, none] ∧ H1 = H ∧ ∃ ts, t = .tup ts ∧ ts ≠ [], ?_, ?_⟩
    · refine ⟨v, rfl, v, .ty "tuple", _, _, _, rfl, .ty _, ty, kit_tuple tm, _, rfl, ?_⟩
      cases hv with
      | int i => exact iteT (iteT (q H (Same.refl H)))
      | oth h m n1 n2 =>
        rename_i t0
        rw [show (tyT (TD.oth t0) == "tuple") = false from n2]
        exact iteT (iteT (q H (Same.refl H)))
      | tup h r =>
        rename_i a xs ts
        refine iteF ?_
        refine ⟨.ref a, rfl, a, _, rfl, .inr h, rfl, _, rfl, ?_⟩
        rw [r.len]
        cases ts with
        | nil => exact iteT (q H (Same.refl H))
        | cons t0 tr =>
          refine ite2 (fun z => ?_) (fun z => ⟨rfl, rfl, _, rfl, fun e => by cases e⟩)
          have := of_decide_eq_true z
          injection this with this
          rw [List.length_cons] at this
          omega
    rintro σ H1 ⟨rfl, rfl, ts, rfl, hne⟩
    obtain ⟨a, xs, rfl, h, r⟩ : ∃ a xs, v = .ref a ∧ SqT K H1 a xs ∧ VTs K H1 xs ts := by
      cases hv with
      | tup h r => exact ⟨_, _, rfl, h, r⟩
    have q2 : ∀ H', Same H1 H' → Q (.bl (ts.all (listT n d))) H' := fun H' s' => by
      have := q H' s'
      rw [show tabT n d (.tup ts) = ts.all (listT n d) by
        cases ts with
        | nil => exact absurd rfl hne
        | cons _ _ => rfl] at this
      exact this
    have xl := r.len
    refine ⟨.ref a, rfl, a, rfl, ⟨_, h⟩, for_tup (K := K) (a := a) (xs := xs) (fun i σ H2 => ∃ (u : Option V), σ = [some (.int n), some (.int (d : Int)), some (.ref a), u] ∧ Same H1 H2 ∧ (ts.take i).all (listT n d) = true) ⟨none, rfl, Same.refl _, rfl⟩ (fun i σ H2 _ ⟨_, _, s2, _⟩ => Same.seqT s2 h) ?_ ?_⟩
    · rintro i x σ H2 hi ⟨u, rfl, s2, al⟩
      obtain ⟨t, ht, hT⟩ := (VTs.same s2 r).at hi
      refine ⟨_, rfl, _, rfl, x, rfl, n, d, x, t, rfl, hT, hd, fun H3 s3 => ?_⟩
      refine ⟨_, rfl, ?_⟩
      cases hb : listT n d t with
      | false =>
        refine iteT ?_
        have q3 := q2 H3 (s2.trans s3)
        rw [show ts.all (listT n d) = false by
          rw [List.all_eq_false]
          exact ⟨t, List.mem_of_getElem? ht, by rw [hb]; decide⟩] at q3
        exact q3
      | true =>
        refine iteF ⟨_, rfl, s2.trans s3, ?_⟩
        rw [take_snoc ht, List.all_append, al]
        show (true && (listT n d t && true)) = true
        rw [hb]
        rfl
    · rintro σ H2 ⟨u, rfl, s2, al⟩
      rw [xl, List.take_length] at al
      have q3 := q2 H2 s2
      rw [al] at q3
      exact q3
end
/-! ### the law's pot of drawn numbers -/
def PotAt (H : Hp) (p : Addr) (m : Nat) : Prop := ∃ a b c : Int, H p = some (.lst [.int a, .int b, .int c]) ∧ (0 ≤ a ∧ a < 10 ^ 300) ∧ (0 ≤ b ∧ b < 2305843009213693951) ∧ 0 ≤ c ∧ c ≤ (m : Int)
theorem PotAt.mono {H : Hp} {p : Addr} {m n : Nat} (h : PotAt H p m) (l : m ≤ n) : PotAt H p n := by
  obtain ⟨a, b, c, h1, h2, h3, h4, h5⟩ := h
  exact ⟨a, b, c, h1, h2, h3, h4, by omega⟩
theorem PotAt.same {H H' : Hp} {p : Addr} {m : Nat} (h : PotAt H p m) (s : Same H H') : PotAt H' p m := by
  obtain ⟨a, b, c, h1, h2⟩ := h
  exact ⟨a, b, c, s _ _ h1, h2⟩
theorem PotAt.ne {H : Hp} {p q : Addr} {m : Nat} (h : PotAt H p m) (n : H q = none) : p ≠ q := by
  obtain ⟨a, b, c, h1, _⟩ := h
  exact ne_of_none h1 n
def spPot (K : PySem.W.Frag) : Sp := fun vs H Q _ => ∃ (a : Addr) (ns : List Int) (i : Nat), vs = [.ref a, .int i] ∧ SqL K H a (ns.map V.int) ∧ i ≤ 100 ∧ ∀ H' p, Same H H' → H p = none → PotAt H' p 0 → Q (.ref p) H'
def spTake : Sp := fun vs H Q _ => ∃ (p : Addr) (m : Nat) (u : Int), vs = [.ref p, .int u] ∧ PotAt H p m ∧ m ≤ 1000000 ∧ 1 ≤ u ∧ u < 2 ^ 1000 ∧
  ∀ (r : Int) (H' : Hp), 0 ≤ r → r < u → PotAt H' p (m + 1) → But p H H' → Q (.int r) H'
theorem own_ok (x : Int) (c : Bool) : 0 ≤ x % ((10 : Int) ^ (60 : Int).toNat) ^ (5 : Int).toNat * (if c then 1 else 0) ∧ x % ((10 : Int) ^ (60 : Int).toNat) ^ (5 : Int).toNat * (if c then 1 else 0) < 10 ^ 300 := by
  have e : ((10 : Int) ^ (60 : Int).toNat) ^ (5 : Int).toNat = 10 ^ 300 := by decide +kernel
  rw [e]
  have h1 := Int.emod_nonneg x (show (10 : Int) ^ 300 ≠ 0 by decide +kernel)
  have h2 := Int.emod_lt_of_pos x (show (0 : Int) < 10 ^ 300 by decide +kernel)
  cases c with
  | true =>
    rw [if_pos rfl, Int.mul_one]
    exact ⟨h1, h2⟩
  | false =>
    rw [if_neg (by decide), Int.mul_zero]
    exact ⟨Int.le_refl _, by decide +kernel⟩
theorem big_pos : (0 : Int) < ((10 : Int) ^ (60 : Int).toNat) ^ (5 : Int).toNat := by decide +kernel
theorem bit_in (c : Bool) : -(2 ^ 64) < (if c then (1 : Int) else 0) ∧ (if c then (1 : Int) else 0) < 2 ^ 64 := by
  cases c <;> decide
theorem prime_at (i : Int) (h0 : 0 ≤ i) (h5 : i < 5) : ∃ v : Int, atI [V.int 2147483647, V.int 2147483629, V.int 2147483587, V.int 2147483579, V.int 2147483563] i = some (.int v) ∧ 0 < v ∧ v < 2 ^ 32 := by
  have h : i = 0 ∨ i = 1 ∨ i = 2 ∨ i = 3 ∨ i = 4 := by omega
  rcases h with rfl | rfl | rfl | rfl | rfl
  · exact ⟨2147483647, rfl, by decide, by decide⟩
  · exact ⟨2147483629, rfl, by decide, by decide⟩
  · exact ⟨2147483587, rfl, by decide, by decide⟩
  · exact ⟨2147483579, rfl, by decide, by decide⟩
  · exact ⟨2147483563, rfl, by decide, by decide⟩
section
variable {P : Program} {w : World} {K : PySem.W.Frag} {mg : Str → Option Value} {base : Heap}
theorem ok_pot (T : Txt K mg) {j : Nat} : FnOk P w K mg base CX0 (j + 1) T.fPot T.fdPot ["_law_script", "_law_k"] (spPot K) := by
  refine T.FPot.ok scPot (fun vs H Q E h => ?_) (fun cdv A outer s H vs Q E hr h => ?_)
  · obtain ⟨a, ns, i, rfl, _⟩ := h
    rfl
  · obtain ⟨a, ns, i, rfl, hS, hi, q⟩ := h
    refine ⟨_, pss_cons (ps_set (i := 2) scPot.nd rfl (.inl rfl) (pe_op op_add (pe_op op_mul pe_int (pv 1)) pe_int)) (C8.pss_cut (ps_if (pt_cmpR op_lt (pv 1) (pe_callB (call_lenK K) (by rfl) T.n_len PySem.boot_len (pa_cons (pv 0) pa_nil)) (nomark _)) (pss_one (ps_set (i := 2) scPot.nd rfl (.inl rfl) (pe_ix (ix_listK K) (pv 0) (pv 1) (fun _ _ => rfl)))) pss_nil) (pss_cons (ps_set (i := 3) scPot.nd rfl (.inl rfl) (pe_op op_mul (pe_op op_mod (pe_callB call_abs (by rfl) T.n_abs (by decide +kernel) (pa_cons (pv 2) pa_nil)) (pe_op op_powB (pe_op op_pow pe_int pe_int) pe_int)) (pe_callTy call_int1 (by rfl) T.n_int (by decide +kernel) (pa_cons (pe_cmpR op_ge (pe_callB call_abs (by rfl) T.n_abs (by decide +kernel) (pa_cons (pv 2) pa_nil)) (pe_op op_pow pe_int pe_int) (nomark _)) pa_nil)))) (pss_one (ps_ret (pe_lst (pa_cons (pv 3) (pa_cons (pe_op op_mod (pe_op op_add (pe_op op_add (pe_op op_mul (pe_op op_mod (pv 2) pe_int) pe_int) (pe_op op_mul (pe_op op_mul pe_int (pv 1)) (pv 1))) pe_int) pe_int) (pa_cons pe_int pa_nil)))))))), ?_⟩
    refine ⟨_, rfl, _, _, rfl, rfl, .inl ⟨by decide, by decide⟩, _, _, rfl, rfl, ?_⟩
    refine ⟨fun σ H2 => ∃ x : Int, σ = [some (.ref a), some (.int i), some (.int x), none] ∧ H2 = H, ?_, ?_⟩
    · refine ⟨_, rfl, .ref a, rfl, a, _, rfl, .inl hS, _, _, rfl, rfl, _, rfl, ite2 (fun h1 => ?_) (fun h1 => ?_)⟩
      · have hlt : i < ns.length := by
          have h2 := of_decide_eq_true h1
          rw [List.length_map] at h2
          omega
        exact ⟨.ref a, rfl, _, rfl, a, _, _, _, rfl, rfl, hS, atI_nat (v := V.int ns[i]) (by rw [List.getElem?_map, List.getElem?_eq_getElem hlt]; rfl), _, rfl, rfl⟩
      · exact ⟨_, rfl, rfl⟩
    · rintro σ H2 ⟨x, rfl, rfl⟩
      refine ⟨_, rfl, _, rfl, _, _, rfl, rfl, ⟨by decide, by decide, by decide⟩, _, _, rfl, rfl, ⟨by decide, by decide +kernel⟩, _, _, rfl, rfl, big_pos, _, rfl, _, rfl, _, _, rfl, rfl, ⟨by decide, by decide, by decide⟩, _, _, rfl, rfl, .inr ⟨_, rfl, _, _, rfl, rfl, .inr (bit_in _), ?_⟩⟩
      refine ⟨_, rfl, _, rfl, _, _, rfl, rfl, (show (0 : Int) < 2305843009213693951 by decide), _, _, rfl, rfl, .inr ⟨by decide, by decide⟩, _, rfl, _, _, rfl, rfl, .inl ⟨by decide, by decide⟩, _, rfl, _, _, rfl, rfl, .inr ⟨by omega, by omega⟩, _, _, rfl, rfl, _, _, rfl, rfl, _, _, rfl, rfl, (show (0 : Int) < 2305843009213693921 by decide), ?_⟩
      refine ⟨by show 3 ≤ sizeLine; decide, fun p np => ?_⟩
      refine q _ p (same_new np) np ⟨_, _, 0, upd_same, own_ok _ _, ⟨Int.emod_nonneg _ (by decide), Int.lt_trans (Int.emod_lt_of_pos _ (by decide)) (by decide)⟩, Int.le_refl _, Int.le_refl _⟩
theorem ok_take (T : Txt K mg) {j : Nat} : FnOk P w K mg base CX0 (j + 1) T.fTake T.fdTake ["_law_pot_here", "_law_size"] spTake := by
  refine T.FTake.ok scTake (fun vs H Q E h => ?_) (fun cdv A outer s H vs Q E hr h => ?_)
  · obtain ⟨p, m, u, rfl, _⟩ := h
    rfl
  · obtain ⟨p, m, u, rfl, ⟨a, b, c, hp, ha, hb, hc0, hcm⟩, hm, hu1, hu2, q⟩ := h
    refine ⟨_, pss_cons (ps_if (pt_cmpR op_gt (pe_ix (ix_listK K) (pv 0) pe_int (fun _ _ => rfl)) pe_int (nomark _)) (pss_cons (ps_set (i := 2) scTake.nd rfl (.inl rfl) (pe_op op_mod (pe_ix (ix_listK K) (pv 0) pe_int (fun _ _ => rfl)) (pv 1))) (pss_cons (ps_asg (pe_op op_fdivW (pe_ix (ix_listK K) (pv 0) pe_int (fun _ _ => rfl)) (pv 1)) (pg_sub (pv 0) pe_int set_list)) (pss_one (ps_ret (pv 2))))) pss_nil) (pss_cons (ps_asg (pe_op op_add (pe_ix (ix_listK K) (pv 0) pe_int (fun _ _ => rfl)) pe_int) (pg_sub (pv 0) pe_int set_list)) (pss_cons (ps_set (i := 3) scTake.nd rfl (.inl rfl) (pe_ix (ix_listK K) (pe_lst (pa_cons pe_int (pa_cons pe_int (pa_cons pe_int (pa_cons pe_int (pa_cons pe_int pa_nil)))))) (pe_op op_mod (pe_ix (ix_listK K) (pv 0) pe_int (fun _ _ => rfl)) pe_int) (fun _ _ => rfl))) (pss_cons (ps_set (i := 4) scTake.nd rfl (.inl rfl) (pe_op op_mod (pe_op op_pow (pe_op op_add (pe_op op_add (pe_ix (ix_listK K) (pv 0) pe_int (fun _ _ => rfl)) (pe_op op_mul (pe_op op_mul pe_int (pe_ix (ix_listK K) (pv 0) pe_int (fun _ _ => rfl))) (pe_ix (ix_listK K) (pv 0) pe_int (fun _ _ => rfl)))) pe_int) pe_int) (pv 3))) (pss_one (ps_ret (pe_op op_mod (pe_op op_fdiv (pe_op op_mod (pe_op op_mul (pv 4) (pe_op op_add (pe_op op_mod (pv 4) pe_int) (pe_op op_mul pe_int (pe_ix (ix_listK K) (pv 0) pe_int (fun _ _ => rfl))))) pe_int) pe_int) (pv 1))))))), ?_⟩
    refine ⟨.ref p, rfl, p, _, _, _, rfl, rfl, SqL.of hp, rfl, _, _, rfl, rfl, _, rfl, ite2 (fun h1 => ?_) (fun h1 => ?_)⟩
    · have h0 : 0 < a := of_decide_eq_true h1
      refine ⟨.ref p, rfl, p, _, _, _, rfl, rfl, SqL.of hp, rfl, _, rfl, _, _, rfl, rfl, by omega, ?_⟩
      refine ⟨.ref p, rfl, p, _, _, _, rfl, rfl, SqL.of hp, rfl, _, rfl, _, _, rfl, rfl, wide_div (b := 1000) (by omega) (by omega) (by decide) (by decide), ?_⟩
      refine ⟨.ref p, rfl, p, _, _, 0, rfl, rfl, hp, rfl, ?_⟩
      refine ⟨_, rfl, q _ _ (Int.emod_nonneg _ (by omega)) (Int.emod_lt_of_pos _ (by omega)) ⟨a / u, b, c, upd_same, ?_, hb, hc0, by omega⟩ (But.refl p H).upd⟩
      have h3 : a / u ≤ a := Int.ediv_le_self _ (by omega)
      exact ⟨Int.ediv_nonneg (by omega) (by omega), by omega⟩
    · refine ⟨.ref p, rfl, p, _, _, _, rfl, rfl, SqL.of hp, rfl, _, _, rfl, rfl, .ref p, rfl, p, _, _, 2, rfl, rfl, hp, rfl, ?_⟩
      have hp2 : (upd H p (.lst [V.int a, V.int b, V.int (c + 1)])) p = some (.lst [V.int a, V.int b, V.int (c + 1)]) := upd_same
      obtain ⟨v, ev, v0, v32⟩ := prime_at ((c + 1) % 5) (Int.emod_nonneg _ (by decide)) (Int.emod_lt_of_pos _ (by decide))
      refine ⟨by decide, fun l nl => ?_⟩
      have npl : p ≠ l := ne_of_none hp2 nl
      have hp3 : (upd (upd H p (.lst [V.int a, V.int b, V.int (c + 1)])) l (.lst [V.int 2147483647, V.int 2147483629, V.int 2147483587, V.int 2147483579, V.int 2147483563])) p = some (.lst [V.int a, V.int b, V.int (c + 1)]) := by
        rw [upd_ne npl]
        exact hp2
      refine ⟨.ref p, rfl, p, _, _, _, rfl, rfl, SqL.of hp3, rfl, _, _, rfl, rfl, (show (0 : Int) < 5 by decide), l, _, _, _, rfl, rfl, SqL.of upd_same, ev, ?_⟩
      refine ⟨.ref p, rfl, p, _, _, _, rfl, rfl, SqL.of hp3, rfl, .ref p, rfl, p, _, _, _, rfl, rfl, SqL.of hp3, rfl, _, _, rfl, rfl, .inl ⟨by decide, by decide⟩, .ref p, rfl, p, _, _, _, rfl, rfl, SqL.of hp3, rfl, _, _, rfl, rfl, .inr ⟨by omega, by omega⟩, _, _, rfl, rfl, _, _, rfl, rfl, _, _, rfl, rfl, ⟨by decide, by decide, ?_⟩, _, rfl, _, _, rfl, rfl, v0, ?_⟩
      · have h8 : 0 ≤ 104729 * (c + 1) * (c + 1) := Int.mul_nonneg (by omega) (by omega)
        have h9 : 104729 * (c + 1) * (c + 1) ≤ 104729 * 1000001 * 1000001 := Int.mul_le_mul (by omega) (by omega) (by omega) (by omega)
        have : (b + 104729 * (c + 1) * (c + 1) + 19).natAbs < 2 ^ 64 := by omega
        exact this
      · refine ⟨_, rfl, _, rfl, _, _, rfl, rfl, (show (0 : Int) < 10007 by decide), .ref p, rfl, p, _, _, _, rfl, rfl, SqL.of hp3, rfl, _, _, rfl, rfl, .inl ⟨by decide, by decide⟩, _, _, rfl, rfl, _, _, rfl, rfl, .inl ?_, _, _, rfl, rfl, (show (0 : Int) < 2305843009213693907 by decide), _, _, rfl, rfl, ⟨by decide, by decide⟩, _, rfl, _, _, rfl, rfl, by omega, ?_⟩
        · have h3 := Int.emod_nonneg ((b + 104729 * (c + 1) * (c + 1) + 19) ^ (3 : Int).toNat) (show v ≠ 0 by omega)
          have h4 := Int.emod_lt_of_pos ((b + 104729 * (c + 1) * (c + 1) + 19) ^ (3 : Int).toNat) v0
          exact ⟨by omega, by omega⟩
        · refine q _ _ (Int.emod_nonneg _ (by omega)) (Int.emod_lt_of_pos _ (by omega)) ⟨a, b, c + 1, hp3, ha, hb, by omega, by omega⟩ ?_
          exact (But.refl p H).upd.same (same_new nl)
end
/-! ### one of some -/
def spOf : Sp := fun vs H Q _ => ∃ (p : Addr) (m : Nat) (l : Addr) (xs : List V), vs = [.ref p, .ref l] ∧ PotAt H p m ∧ m ≤ 1000000 ∧ H l = some (.lst xs) ∧ l ≠ p ∧ 1 ≤ xs.length ∧ xs.length ≤ 1000 ∧
  ∀ (v : V) (H' : Hp), v ∈ xs → PotAt H' p (m + 1) → But p H H' → Q v H'
theorem pick_at {xs : List V} {r : Int} (h0 : 0 ≤ r) (hl : r < (xs.length : Int)) : ∃ v, v ∈ xs ∧ atI xs r = some v := by
  obtain ⟨k, rfl⟩ := Int.eq_ofNat_of_zero_le h0
  have hk : k < xs.length := by omega
  exact ⟨xs[k], List.getElem_mem hk, atI_nat (List.getElem?_eq_getElem hk)⟩
section
variable {P : Program} {w : World} {K : PySem.W.Frag} {mg : Str → Option Value} {base : Heap}
theorem ok_of (T : Txt K mg) {j : Nat} : FnOk P w K mg base CX0 (j + 2) T.fOf T.fdOf ["_law_pot_here", "_law_some"] spOf := by
  refine T.FOf.ok scOf (fun vs H Q E h => ?_) (fun cdv A outer s H vs Q E hr h => ?_)
  · obtain ⟨p, m, l, xs, rfl, _⟩ := h
    rfl
  · obtain ⟨p, m, l, xs, rfl, P0, hm, hl, hne, h1, h2, q⟩ := h
    refine ⟨_, pss_one (ps_ret (pe_ix ix_list (pv 1) (pe_call (ok_take T) hr (by rfl) T.gTake T.FTake.kp T.bTake .nil pass0 (pa_cons (pv 0) (pa_cons (pe_callB call_len_seq (by rfl) T.n_len PySem.boot_len (pa_cons (pv 1) pa_nil)) pa_nil))) (fun _ _ => rfl))), ?_⟩
    refine ⟨.ref l, rfl, .ref p, rfl, .ref l, rfl, l, _, rfl, .inl (SqL.of hl), p, m, _, rfl, P0, hm, by omega, ?_, fun r H' r0 rl P1 B1 => ?_⟩
    · exact Int.lt_trans (show (xs.length : Int) < 1001 by omega) (by decide +kernel)
    · obtain ⟨v, hv, ev⟩ := pick_at r0 rl
      exact ⟨l, xs, r, v, rfl, rfl, SqL.of (B1 _ _ hne hl), ev, q v H' hv P1 B1⟩
end
/-! ### tuples and lists of servers -/
def setV (ms : List Nat) : List V := ms.map fun (m : Nat) => V.int (m : Int)
theorem setV_app (a b : List Nat) : setV (a ++ b) = setV a ++ setV b := List.map_append
theorem setV_at {ms : List Nat} {i m : Nat} (h : ms[i]? = some m) : (setV ms)[i]? = some (V.int (m : Int)) := by
  unfold setV
  rw [List.getElem?_map, h]
  rfl
theorem setV_len (ms : List Nat) : (setV ms).length = ms.length := List.length_map _
theorem setV_range (n : Nat) : rgV 0 (n : Int) = setV (List.range' 0 n) := by
  unfold setV
  have e : ((n : Int) - 0).toNat = n := by omega
  unfold rgV
  rw [e, List.range_eq_range']
  refine List.map_congr_left fun i _ => ?_
  rw [Int.zero_add]
theorem seq_at {k n : Nat} (h : k < n) : seqIndex? (k : Int) n = some k := by
  unfold seqIndex?
  simp only [show ¬ ((k : Int) < 0) by omega, if_false]
  rw [if_pos]
  · rw [Int.toNat_natCast]
  · rw [Bool.and_eq_true]
    exact ⟨decide_eq_true (by omega), decide_eq_true (by omega)⟩
theorem SqL.is {K : PySem.W.Frag} {H : Hp} {a : Addr} {xs ys : List V} (h : SqL K H a xs) (e : xs = ys) : SqL K H a ys := e ▸ h
theorem setV_erase : ∀ (l : List Nat) (k : Nat), (setV l).eraseIdx k = setV (l.eraseIdx k)
  | [], _ => rfl
  | _ :: _, 0 => rfl
  | a :: r, k + 1 => congrArg (V.int (a : Int) :: ·) (setV_erase r k)
theorem setV_ints (ms : List Nat) : setV ms = (ms.map fun (m : Nat) => (m : Int)).map V.int := by
  unfold setV
  rw [List.map_map]
  rfl
theorem ints_back {ns : List Int} {ms : List Nat} (h : ns.Perm (ms.map fun (m : Nat) => (m : Int))) : ∃ ks : List Nat, ns = (ks.map fun (m : Nat) => (m : Int)) ∧ ks.Perm ms := by
  have e : ∀ x ∈ ns, ((x.toNat : Nat) : Int) = x := fun x hx => by
    obtain ⟨m, _, rfl⟩ := List.mem_map.mp (h.mem_iff.mp hx)
    simp
  refine ⟨ns.map Int.toNat, ?_, ?_⟩
  · rw [List.map_map]
    conv => lhs; rw [← List.map_id ns]
    exact List.map_congr_left fun x hx => (e x hx).symm
  · have h2 := h.map Int.toNat
    rw [List.map_map] at h2
    have e2 : (ms.map (Int.toNat ∘ fun (m : Nat) => (m : Int))) = ms := by
      conv => rhs; rw [← List.map_id ms]
      exact List.map_congr_left fun x _ => by simp
    rw [e2] at h2
    exact h2
theorem le_back {ks : List Nat} (h : (ks.map fun (m : Nat) => (m : Int)).Pairwise (· ≤ ·)) : ks.Pairwise (· ≤ ·) := by
  rw [List.pairwise_map] at h
  exact h.imp fun z => by omega
theorem lt_of_le {ks : List Nat} (h : ks.Pairwise (· ≤ ·)) (hn : ks.Nodup) : Asc ks := (h.and hn).imp fun ⟨a, b⟩ => by omega
theorem inV_ints (x : Int) : ∀ ns : List Int, inV (V.int x) (ns.map V.int) = decide (x ∈ ns)
  | [] => rfl
  | y :: r => by
    show ((y == x) || inV (V.int x) (r.map V.int)) = _
    rw [inV_ints x r]
    by_cases h : y = x
    · subst h
      rw [beq_self_eq_true, decide_eq_true List.mem_cons_self]
      rfl
    · rw [show (y == x) = false from beq_eq_false_iff_ne.mpr h, Bool.false_or]
      by_cases g : x ∈ r
      · rw [decide_eq_true g, decide_eq_true (List.mem_cons_of_mem _ g)]
      · rw [decide_eq_false g, decide_eq_false fun z => ?_]
        rcases List.mem_cons.mp z with z | z
        · exact h z.symm
        · exact g z
theorem flat_ints : ∀ ns : List Int, (ns.map V.int).all flatV = true
  | [] => rfl
  | _ :: r => flat_ints r
theorem setV_flat (ms : List Nat) : (setV ms).all flatV = true := by
  rw [setV_ints]
  exact flat_ints _
theorem inV_setV (x : Nat) (ms : List Nat) : inV (.int (x : Int)) (setV ms) = decide (x ∈ ms) := by
  rw [setV_ints, inV_ints]
  refine decide_eq_decide.mpr ⟨fun h => ?_, fun h => List.mem_map.mpr ⟨x, h, rfl⟩⟩
  obtain ⟨y, hy, e⟩ := List.mem_map.mp h
  have : y = x := by omega
  rw [← this]
  exact hy
theorem setV_mem {ms : List Nat} {v : V} (h : v ∈ setV ms) : ∃ m, m ∈ ms ∧ v = .int (m : Int) := by
  obtain ⟨m, hm, e⟩ := List.mem_map.mp h
  exact ⟨m, hm, e.symm⟩
theorem setV_get {ms : List Nat} {i : Nat} {v : V} (h : (setV ms)[i]? = some v) : ∃ m, ms[i]? = some m ∧ v = .int (m : Int) := by
  unfold setV at h
  rw [List.getElem?_map] at h
  cases e : ms[i]? with
  | none =>
    rw [e] at h
    cases h
  | some m =>
    rw [e] at h
    exact ⟨m, rfl, (Option.some.inj h).symm⟩
theorem range'_snoc (n : Nat) : List.range' 0 (n + 1) = List.range' 0 n ++ [n] := by
  rw [← List.range_eq_range', ← List.range_eq_range', List.range_succ]
theorem fr_step (f : Nat → Bool) (n : Nat) : setV ((List.range' 0 (n + 1)).filter f) = setV ((List.range' 0 n).filter f) ++ if f n = true then [V.int (n : Int)] else [] := by
  rw [range'_snoc, List.filter_append, setV_app]
  congr 1
  cases h : f n with
  | true => rw [List.filter_cons_of_pos h]; rfl
  | false => rw [List.filter_cons_of_neg (by rw [h]; decide)]; rfl
/-- what an error of the class CN with the field f leaves behind -/
def Raised (f : Str) (CN : Addr) (v : V) (H : Hp) (E : XK) : Prop := ∀ H' d, Same H H' → H' d = some (.xd [(f, v)]) → H d = none → E (.ref CN) (some d) H'
theorem Raised.on {f : Str} {CN : Addr} {v : V} {H H1 : Hp} {E : XK} (s : Same H H1) (h : Raised f CN v H E) : Raised f CN v H1 E := fun H' d s2 e n => h H' d (s.trans s2) e (s.free n)
theorem cut_set (ms : List Nat) (lo hi : Option Int) : ∃ ks : List Nat, cutV (setV ms) lo hi = setV ks ∧ (∀ x ∈ ks, x ∈ ms) ∧ ks.length ≤ ms.length ∧ ks.Sublist ms := by
  unfold cutV setV
  rw [← List.map_drop, ← List.map_take]
  refine ⟨_, rfl, fun x hx => List.mem_of_mem_drop (List.mem_of_mem_take hx), ?_, (List.take_sublist _ _).trans (List.drop_sublist _ _)⟩
  rw [List.length_take, List.length_drop]
  omega
def natOf : V → Nat
  | .int i => i.toNat
  | _ => 0
theorem perm_setV {ys : List V} {ms : List Nat} (h : ys.Perm (setV ms)) : ∃ ks : List Nat, ys = setV ks ∧ ks.Perm ms := by
  have e : ∀ y ∈ ys, V.int ((natOf y : Nat) : Int) = y := fun y hy => by
    obtain ⟨m, _, rfl⟩ := setV_mem (h.mem_iff.mp hy)
    show V.int (((m : Int).toNat : Nat) : Int) = _
    rw [Int.toNat_natCast]
  refine ⟨ys.map natOf, ?_, ?_⟩
  · unfold setV
    rw [List.map_map]
    conv => lhs; rw [← List.map_id ys]
    exact List.map_congr_left fun y hy => (e y hy).symm
  · have h2 := h.map natOf
    unfold setV at h2
    rw [List.map_map] at h2
    have e2 : (ms.map (natOf ∘ fun (m : Nat) => V.int (m : Int))) = ms := by
      conv => rhs; rw [← List.map_id ms]
      refine List.map_congr_left fun x _ => ?_
      show (x : Int).toNat = x
      rw [Int.toNat_natCast]
    rw [e2] at h2
    exact h2
theorem dp_set {K : PySem.W.Frag} {H : Hp} : ∀ ms : List Nat, DpAll K H (setV ms) (natD ms)
  | [] => .nil
  | m :: r => .cons (.int (m : Int)) (dp_set r)
theorem but_free {p q : Addr} {H H' : Hp} (s : But p H H') (h : H' q = none) (n : q ≠ p) : H q = none := by
  cases e : H q with
  | none => rfl
  | some o =>
    rw [s _ _ n e] at h
    cases h
theorem but_new {p q : Addr} {H H1 : Hp} {o : HO} (s : But p H H1) (h : H q = none) : But p H (L2.upd H1 q o) := fun b x n e => by
  rw [upd_ne (ne_of_none e h)]
  exact s b x n e
theorem erase_perm {α : Type} : ∀ (l : List α) (k : Nat) (x : α), l[k]? = some x → (x :: l.eraseIdx k).Perm l
  | [], _, _, h => by cases h
  | a :: r, 0, x, h => by
    obtain rfl : a = x := Option.some.inj h
    exact List.Perm.refl _
  | a :: r, k + 1, x, h => (List.Perm.swap a x _).trans ((erase_perm r k x h).cons a)
theorem same_hide {p : Addr} {H H' : Hp} (s : Same H H') (n : H p = none) : Same H (hide p H') := fun b o e => by
  rw [hide_ne (ne_of_none e n)]
  exact s b o e
theorem cut_take (fl : List Nat) (w : Nat) : cutV (setV fl) none (some (w : Int)) = setV (fl.take w) := by
  unfold cutV
  have e0 : HT.sIx (setV fl).length 0 none = 0 := rfl
  have e1 : HT.sIx (setV fl).length (setV fl).length (some (w : Int)) = min w fl.length := by
    rw [setV_len]
    exact HT.sIx_nat _ _ _
  rw [e0, e1, List.drop_zero, Nat.sub_zero]
  unfold setV
  rw [← List.map_take]
  congr 1
  rw [List.take_eq_take_iff]
  omega
theorem SqT_updL {K : PySem.W.Frag} {H : Hp} {a D : Addr} {xs ys : List V} {o : HO} (h : SqT K H a xs) (hD : H D = some (.lst ys)) : SqT K (upd H D o) a xs := by
  rcases h with (h | ⟨o, h⟩) | h
  · exact .inl (.inl (by rw [upd_ne (fun c => by rw [c, hD] at h; cases h)]; exact h))
  · exact .inl (.inr ⟨o, by rw [upd_ne (fun c => by rw [c, hD] at h; cases h)]; exact h⟩)
  · exact .inr h
/-- a pair of a tuple of servers and a number -/
def PairAt (H0 H : Hp) (u : Addr) (ms : List Nat) (r : Nat) : Prop := H0 u = none ∧ ∃ t, H0 t = none ∧ H u = some (.tup [.ref t, .int (r : Int)]) ∧ H t = some (.tup (setV ms))
theorem PairAt.back {H0 H1 H : Hp} {u : Addr} {ms : List Nat} {r : Nat} (s : Same H0 H1) (h : PairAt H1 H u ms r) : PairAt H0 H u ms r := by
  obtain ⟨a, t, b, c⟩ := h
  exact ⟨s.free a, t, s.free b, c⟩
theorem erase_setV : ∀ (l : List Nat) (k : Nat), (setV l).eraseIdx k = setV (l.eraseIdx k)
  | [], _ => rfl
  | _ :: _, 0 => rfl
  | a :: r, k + 1 => congrArg (V.int (a : Int) :: ·) (erase_setV r k)
/-! ### some things in a drawn order -/
/-- a server, or a tuple of servers -/
def TI (K : PySem.W.Frag) (H : Hp) (v : V) (d : PyData) : Prop := (∃ m : Nat, m < 60 ∧ v = .int (m : Int) ∧ d = .int (m : Int)) ∨ ∃ (t : Addr) (ms : List Nat), v = .ref t ∧ SqT K H t (setV ms) ∧ ms.length ≤ 60 ∧ (∀ x ∈ ms, x < 60) ∧ d = .tuple (natD ms)
theorem TI.dp {K : PySem.W.Frag} {H : Hp} {v : V} {d : PyData} (h : TI K H v d) : Dp K H v d := by
  rcases h with ⟨m, _, rfl, rfl⟩ | ⟨t, ms, rfl, hT, _, _, rfl⟩
  · exact .int _
  · exact .tup hT (dp_set ms)
theorem TI.sh {K : PySem.W.Frag} {H : Hp} {v : V} {d : PyData} (h : TI K H v d) : Sh 1 500 d := by
  rcases h with ⟨m, hm, rfl, rfl⟩ | ⟨t, ms, rfl, hT, hl, hx, rfl⟩
  · exact (Sh.int (b := 6) (by decide) (by decide) (i := (m : Int)) (by rw [Int.natAbs_natCast]; omega)).mono (by decide) (by decide)
  · exact sh_list hl hx
theorem SqT_but {K : PySem.W.Frag} {H H' : Hp} {a p : Addr} {xs ys : List V} (h : SqT K H a xs) (hp : H p = some (.lst ys)) (b : But p H H') : SqT K H' a xs := by
  rcases h with (h | ⟨o, h⟩) | h
  · exact .inl (.inl (b _ _ (fun c => by rw [c, hp] at h; cases h) h))
  · exact .inl (.inr ⟨o, b _ _ (fun c => by rw [c, hp] at h; cases h) h⟩)
  · exact .inr h
theorem PotAt.lst {H : Hp} {p : Addr} {m : Nat} (h : PotAt H p m) : ∃ ys, H p = some (.lst ys) := by
  obtain ⟨a, b, c, h1, _⟩ := h
  exact ⟨_, h1⟩
theorem TI.same {K : PySem.W.Frag} {H H' : Hp} {v : V} {d : PyData} (s : Same H H') (h : TI K H v d) : TI K H' v d := by
  rcases h with h | ⟨t, ms, e, hT, r⟩
  · exact .inl h
  · exact .inr ⟨t, ms, e, Same.seqT s hT, r⟩
theorem TI.updL {K : PySem.W.Frag} {H : Hp} {v : V} {d : PyData} {D : Addr} {ys : List V} {o : HO} (h : TI K H v d) (hD : H D = some (.lst ys)) : TI K (upd H D o) v d := by
  rcases h with h | ⟨t, ms, e, hT, r⟩
  · exact .inl h
  · exact .inr ⟨t, ms, e, SqT_updL hT hD, r⟩
theorem TI.but {K : PySem.W.Frag} {H H' : Hp} {v : V} {d : PyData} {p : Addr} {m : Nat} (h : TI K H v d) (hp : PotAt H p m) (b : But p H H') : TI K H' v d := by
  obtain ⟨ys, e⟩ := hp.lst
  rcases h with h | ⟨t, ms, e2, hT, r⟩
  · exact .inl h
  · exact .inr ⟨t, ms, e2, SqT_but hT e b, r⟩
def Els (K : PySem.W.Frag) (H : Hp) (xs : List V) : Prop := ∀ x ∈ xs, ∃ d, TI K H x d
theorem Els.data {K : PySem.W.Frag} {H : Hp} : ∀ {xs : List V}, Els K H xs → ∃ ds, DpAll K H xs ds ∧ ShAll 1 (501 * xs.length) ds ∧ ds.length = xs.length
  | [], _ => ⟨[], .nil, ShAll.nil.mono (by decide) (Nat.zero_le _), rfl⟩
  | x :: r, h => by
    obtain ⟨d, hd⟩ := h x List.mem_cons_self
    obtain ⟨ds, h1, h2, h3⟩ := Els.data fun y hy => h y (List.mem_cons_of_mem _ hy)
    exact ⟨d :: ds, .cons hd.dp h1, (ShAll.cons hd.sh h2).mono (Nat.le_refl _) (by rw [List.length_cons, Nat.mul_succ]; omega), congrArg (· + 1) h3⟩
theorem Els.set {K : PySem.W.Frag} {H : Hp} {ms : List Nat} (h : ∀ x ∈ ms, x < 60) : Els K H (setV ms) := fun v hv => by
  obtain ⟨m, hm, rfl⟩ := setV_mem hv
  exact ⟨_, .inl ⟨m, h m hm, rfl, rfl⟩⟩
theorem PotAt.upd {H : Hp} {p q : Addr} {m : Nat} {o : HO} (h : PotAt H p m) (n : p ≠ q) : PotAt (L2.upd H q o) p m := by
  obtain ⟨a, b, c, h1, h2⟩ := h
  exact ⟨a, b, c, by rw [upd_ne n]; exact h1, h2⟩
def spMixed (K : PySem.W.Frag) : Sp := fun vs H Q _ => ∃ (p : Addr) (m : Nat) (a : Addr) (xs : List V), vs = [.ref p, .ref a] ∧ PotAt H p m ∧ m ≤ 100000 ∧ (SqL K H a xs ∨ SqT K H a xs) ∧ xs.length ≤ 1000 ∧ Els K H xs ∧
  ∀ H' q ys, But p H H' → H q = none → H' q = some (.lst ys) → ys.Perm xs → PotAt H' p (m + xs.length) → Q (.ref q) H'
def WMixed (K : PySem.W.Frag) (p a pl pf : Addr) (m : Nat) (xs : List V) (H : Hp) (k : Nat) (σ : L2.St) (H' : Hp) : Prop := ∃ L F : List V, σ = [some (.ref p), some (.ref a), some (.ref pl), some (.ref pf)] ∧ H' pl = some (.lst L) ∧ H' pf = some (.lst F) ∧ (F ++ L).Perm xs ∧ PotAt H' p (m + F.length) ∧ But p H H' ∧ Els K H' xs ∧ k = L.length
section
variable {P : Program} {w : World} {K : PySem.W.Frag} {mg : Str → Option Value} {base : Heap}
theorem ok_mixed (T : Txt K mg) {j : Nat} : FnOk P w K mg base CX0 (j + 2) T.fMixed T.fdMixed ["_law_pot_here", "_law_some"] (spMixed K) := by
  refine T.FMixed.ok scMixed (fun vs H Q E h => ?_) (fun cdv A outer s H vs Q E hr h => ?_)
  · obtain ⟨p, m, a, xs, rfl, _⟩ := h
    rfl
  · obtain ⟨p, m, a, xs, rfl, P0, hm, hA, hl, els, q⟩ := h
    have hu64 : (A.deeper (envOfC "_law_mixed" (defScope sMixed) s.heap.objs.size T.fMixed cdv)).units + 64 < cLine := by
      have := hr.un
      omega
    refine ⟨_, pss_cons (ps_par (i := 2) (j := 3) rfl scMixed.nd rfl rfl (by decide) rfl rfl (pa_cons (pe_callTy (call_listK K) (by rfl) T.n_list (by decide +kernel) (pa_cons (pv 1) pa_nil)) (pa_cons (pe_lst pa_nil) pa_nil)) (by rfl)) (pss_cons (ps_while PassesOwn.never (pt_cmpR (op_neDK K hu64) (pv 2) (pe_lst pa_nil) (nomark _)) (pss_one (ps_expr (pe_bm PySem.F.plainAttrs_list PySem.F.slot_list_append PySem.F.type_list_append mt_append (pv 3) (pa_cons (pe_bm PySem.F.plainAttrs_list PySem.F.slot_list_pop PySem.F.type_list_pop mt_popAt (pv 2) (pa_cons (pe_call (ok_take T) hr (by rfl) T.gTake T.FTake.kp T.bTake .nil pass0 (pa_cons (pv 0) (pa_cons (pe_callB (call_lenK K) (by rfl) T.n_len PySem.boot_len (pa_cons (pv 2) pa_nil)) pa_nil))) pa_nil)) pa_nil))))) (pss_one (ps_ret (pv 3)))), ?_⟩
    refine ⟨.ref a, rfl, a, _, rfl, hA, fun pl nl => ⟨Nat.zero_le _, fun pf nf => ⟨_, _, rfl, ?_⟩⟩⟩
    have hpl : pl ≠ p := (P0.ne nl).symm
    have P1 := P0.same (same_new (o := .lst xs) nl)
    have hpf : pf ≠ p := (P1.ne nf).symm
    have npf : pf ≠ pl := fun z => by
      rw [z, upd_same] at nf
      cases nf
    have ff : H pf = none := (same_new nl).free nf
    have s0 := (same_new (o := .lst xs) nl).trans (same_new (o := .lst []) nf)
    refine ⟨WMixed K p a pl pf m xs H, ⟨xs.length, xs, [], rfl, ?_, upd_same, List.Perm.refl _, P0.same s0, But.of s0, fun x hx => ?_, rfl⟩, ?_⟩
    · rw [upd_ne npf.symm]
      exact upd_same
    · obtain ⟨d, hd⟩ := els x hx
      exact ⟨d, hd.same s0⟩
    rintro k σ H2 ⟨L, F, rfl, hL, hF, pm, P2, B2, els2, rfl⟩
    have elsL : Els K H2 L := fun x hx => els2 x (pm.mem_iff.mp (List.mem_append_right _ hx))
    have hlen := pm.length_eq
    rw [List.length_append] at hlen
    refine ⟨.ref pl, rfl, Nat.zero_le _, fun e ne => ?_⟩
    have se := same_new (o := .lst []) ne
    obtain ⟨ds, d1, d2, d3⟩ := Els.data elsL
    have sL := (Sh.lst d2).shaped (by decide)
    refine ⟨.list ds, .list [], .lst (SqL.of (se _ _ hL)) (DpAll.mono se d1), .lst (SqL.of upd_same) .nil, sL, (Sh.lst ShAll.nil).shaped (by decide), _, rfl, ?_⟩
    have P3 := P2.same se
    have B3 := B2.same se
    have hL3 := se _ _ hL
    have hF3 := se _ _ hF
    have els3 : Els K (upd H2 e (.lst [])) xs := fun x hx => by
      obtain ⟨d, hd⟩ := els2 x hx
      exact ⟨d, hd.same se⟩
    generalize upd H2 e (.lst []) = H3 at P3 B3 hL3 hF3 els3
    cases L with
    | nil =>
      cases ds with
      | cons _ _ => cases d3
      | nil =>
        refine iteF ⟨_, rfl, ?_⟩
        rw [List.append_nil] at pm
        rw [List.length_nil, Nat.add_zero] at hlen
        rw [hlen] at P3
        exact q H3 pf F B3 ff hF3 pm P3
    | cons y r =>
      cases ds with
      | nil => cases d3
      | cons d ds =>
        refine iteT ?_
        refine ⟨WMixed K p a pl pf m xs H r.length, fun σ' H'' hw => ⟨r.length, Nat.lt_succ_self _, hw⟩, ?_⟩
        have hlr : (y :: r).length = r.length + 1 := rfl
        refine ⟨.ref pf, rfl, .inl ⟨rfl, _, SqL.of hF3⟩, .ref pl, rfl, .inl ⟨rfl, _, SqL.of hL3⟩, .ref p, rfl, .ref pl, rfl, pl, _, rfl, .inl (SqL.of hL3), p, _, _, rfl, P3, by omega, by omega, ?_, fun x H7 x0 xl P7 B7 => ?_⟩
        · exact Int.lt_trans (show ((y :: r).length : Int) < 2000 by omega) (by decide +kernel)
        obtain ⟨k, rfl⟩ := Int.eq_ofNat_of_zero_le x0
        have hk : k < (y :: r).length := by omega
        have hL7 := B7 _ _ hpl hL3
        have hF7 := B7 _ _ hpf hF3
        refine ⟨pl, _, (k : Int), k, _, rfl, rfl, hL7, by omega, by omega, seq_at hk, List.getElem?_eq_getElem hk, pf, _, _, rfl, rfl, (by rw [upd_ne npf]; exact hF7), small1000 (by omega), ?_⟩
        refine ⟨(y :: r).eraseIdx k, F ++ [(y :: r)[k]], rfl, ?_, upd_same, ?_, ?_, ?_, ?_, ?_⟩
        · rw [upd_ne npf.symm, upd_same]
        · rw [List.append_assoc]
          exact ((erase_perm (y :: r) k _ (List.getElem?_eq_getElem hk)).append_left F).trans pm
        · rw [List.length_append, show m + (F.length + [(y :: r)[k]].length) = m + F.length + 1 from rfl]
          exact (P7.upd hpl.symm).upd hpf.symm
        · exact but_new (but_new (B3.trans B7) nl) ff
        · intro x hx
          obtain ⟨d, hd⟩ := els3 x hx
          have h7 := hd.but P3 B7
          exact ⟨d, (h7.updL hL7).updL (ys := F) (by rw [upd_ne npf]; exact hF7)⟩
        · rw [List.length_eraseIdx, if_pos hk]
          omega
end
/-! ### lists of tuples of servers -/
def RowsL (K : PySem.W.Frag) (H : Hp) (ts : List V) (rows : List (List Nat)) : Prop := PySem.Paired (fun v ms => ∃ t, v = V.ref t ∧ SqT K H t (setV ms)) ts rows
theorem RowsL.same {K : PySem.W.Frag} {H H' : Hp} {ts : List V} {rows : List (List Nat)} (s : Same H H') (h : RowsL K H ts rows) : RowsL K H' ts rows := PySem.Paired.mono (fun v ms ⟨t, e, z⟩ => ⟨t, e, Same.seqT s z⟩) h
theorem RowsL.app {K : PySem.W.Frag} {H : Hp} {xs ys : List V} {L M : List (List Nat)} (h : RowsL K H xs L) (g : RowsL K H ys M) : RowsL K H (xs ++ ys) (L ++ M) := by
  unfold RowsL at *
  induction h with
  | nil => exact g
  | cons a _ ih => exact .cons a ih
theorem RowsL.len {K : PySem.W.Frag} {H : Hp} {ts : List V} {rows : List (List Nat)} (h : RowsL K H ts rows) : ts.length = rows.length := by
  unfold RowsL at h
  induction h with
  | nil => rfl
  | cons _ _ ih => exact congrArg (· + 1) ih
theorem RowsL.at {K : PySem.W.Frag} {H : Hp} {ts : List V} {rows : List (List Nat)} (h : RowsL K H ts rows) : ∀ {i : Nat} {v : V}, ts[i]? = some v → ∃ ms, rows[i]? = some ms ∧ ∃ t, v = V.ref t ∧ SqT K H t (setV ms) := by
  unfold RowsL at h
  induction h with
  | nil =>
    intro i v z
    cases z
  | cons a _ ih =>
    intro i v z
    cases i with
    | zero =>
      obtain rfl := Option.some.inj z
      exact ⟨_, rfl, a⟩
    | succ i => exact ih z
theorem RowsL.mem {K : PySem.W.Frag} {H : Hp} {ts : List V} {rows : List (List Nat)} (h : RowsL K H ts rows) {v : V} (hv : v ∈ ts) : ∃ ms, ms ∈ rows ∧ ∃ t, v = V.ref t ∧ SqT K H t (setV ms) := by
  obtain ⟨i, hi⟩ := List.getElem?_of_mem hv
  obtain ⟨ms, h1, h2⟩ := h.at hi
  exact ⟨ms, List.mem_of_getElem? h1, h2⟩
def tupD (ms : List Nat) : PyData := .tuple (natD ms)
theorem natD_ints (ms : List Nat) : natD ms = (intL ms).map PyData.int := by
  unfold natD
  rw [List.map_map]
  rfl
theorem dp_tup {K : PySem.W.Frag} {H : Hp} {t : Addr} {ms : List Nat} (h : SqT K H t (setV ms)) : Dp K H (.ref t) (tupD ms) := .tup h (dp_set ms)
theorem RowsL.dp {K : PySem.W.Frag} {H : Hp} {ts : List V} {rows : List (List Nat)} (h : RowsL K H ts rows) : DpAll K H ts (rows.map tupD) := by
  unfold RowsL at h
  induction h with
  | nil => exact .nil
  | cons a _ ih =>
    obtain ⟨t, rfl, ht⟩ := a
    exact .cons (dp_tup ht) ih
theorem RowsL.pairs {K : PySem.W.Frag} {H : Hp} {ts : List V} {rows : List (List Nat)} (h : RowsL K H ts rows) : ∃ bs : List (V × PyData), bs.map (·.1) = ts ∧ bs.map (·.2) = rows.map tupD ∧ ∀ b ∈ bs, Dp K H b.1 b.2 := by
  unfold RowsL at h
  induction h with
  | nil => exact ⟨[], rfl, rfl, fun _ hb => absurd hb List.not_mem_nil⟩
  | @cons v ms _ _ a _ ih =>
    obtain ⟨t, rfl, ht⟩ := a
    obtain ⟨bs, e1, e2, e3⟩ := ih
    refine ⟨(.ref t, tupD ms) :: bs, by rw [List.map_cons, e1], by rw [List.map_cons, e2]; rfl, fun b hb => ?_⟩
    rcases List.mem_cons.mp hb with rfl | hb
    · exact dp_tup ht
    · exact e3 b hb
theorem alike_tup (xs ys : List Nat) : PySem.W.alike (tupD xs) (tupD ys) = true := by
  unfold tupD
  rw [natD_ints, natD_ints]
  exact PySem.W.alike_ints _ _
theorem depth_tup (ms : List Nat) : (tupD ms).depth ≤ 20 := by
  unfold tupD
  rw [natD_ints]
  have : (PyData.tuple ((intL ms).map PyData.int)).depth = PyData.depthAll ((intL ms).map PyData.int) + 1 := rfl
  rw [this, PySem.W.depth_ints]
  decide
theorem dLe_tup {u v : V} {xs ys : List Nat} (h : LexLe xs ys) : dLe (u, tupD xs) (v, tupD ys) = true := by
  unfold tupD
  rw [natD_ints, natD_ints, dLe_ints, decide_eq_false h]
  rfl
theorem asc_pairs : ∀ {bs : List (V × PyData)} {rows : List (List Nat)}, bs.map (·.2) = rows.map tupD → rows.Pairwise LexLe → bs.Pairwise fun a b => dLe a b = true
  | [], _, _, _ => List.Pairwise.nil
  | _ :: _, [], e, _ => by cases e
  | (u, d) :: bs, ms :: rows, e, h => by
    obtain ⟨rfl, e2⟩ := List.cons.inj e
    obtain ⟨h1, h2⟩ := List.pairwise_cons.mp h
    refine List.pairwise_cons.mpr ⟨fun b hb => ?_, asc_pairs e2 h2⟩
    have hb2 : b.2 ∈ rows.map tupD := by
      rw [← e2]
      exact List.mem_map.mpr ⟨b, hb, rfl⟩
    obtain ⟨m2, hm2, eb⟩ := List.mem_map.mp hb2
    obtain ⟨bu, bd⟩ := b
    obtain rfl : tupD m2 = bd := eb
    exact dLe_tup (h1 m2 hm2)
/-- sorted of ascending rows -/
theorem sort_rows {K : PySem.W.Frag} {H : Hp} {a : Addr} {ts : List V} {rows : List (List Nat)} {Q : VK} (hL : SqL K H a ts) (r : RowsL K H ts rows) (asc : rows.Pairwise LexLe) (ne : ∀ ms ∈ rows, ms ≠ []) (q : ∀ p, H p = none → Q (.ref p) (upd H p (.lst ts))) : rSortD K [.ref a] H Q := by
  obtain ⟨bs, e1, e2, e3⟩ := r.pairs
  refine ⟨a, bs, rfl, by rw [e1]; exact hL, e3, ?_, ?_, fun b hb => ?_, fun p np => ?_⟩
  · rw [e2]
    intro d hd d' hd'
    obtain ⟨x, _, rfl⟩ := List.mem_map.mp hd
    obtain ⟨y, _, rfl⟩ := List.mem_map.mp hd'
    exact alike_tup x y
  · rw [e2]
    refine .inl fun d hd => ?_
    obtain ⟨ms, hm, rfl⟩ := List.mem_map.mp hd
    cases ms with
    | nil => exact absurd rfl (ne [] hm)
    | cons m r => exact ⟨_, _, rfl⟩
  · have hb2 : b.2 ∈ rows.map tupD := by
      rw [← e2]
      exact List.mem_map.mpr ⟨b, hb, rfl⟩
    obtain ⟨ms, _, e⟩ := List.mem_map.mp hb2
    rw [← e]
    exact depth_tup ms
  · rw [dsort_id (asc_pairs e2 asc), e1]
    exact q p np
theorem sh_rows {d : Nat} : ∀ {rows : List (List Nat)}, (∀ r ∈ rows, r.length ≤ d ∧ ∀ x ∈ r, x < 60) → ShAll 1 ((7 * d + 1) * rows.length) (rows.map tupD)
  | [], _ => ShAll.nil.mono (by decide) (Nat.zero_le _)
  | r :: rows, h => by
    obtain ⟨h1, h2⟩ := h r List.mem_cons_self
    have a := sh_nat (b := 6) (by decide) (by decide) (ms := r) fun x hx => by
      have := h2 x hx
      omega
    have b := Sh.tup a
    have m1 : (6 + 1) * r.length ≤ 7 * d := Nat.mul_le_mul_left 7 h1
    have c := ShAll.cons (b.mono (Nat.le_refl _) m1) (sh_rows fun r' hr => h r' (List.mem_cons_of_mem _ hr))
    refine c.mono (Nat.le_refl _) ?_
    show 7 * d + 1 + (7 * d + 1) * rows.length ≤ (7 * d + 1) * (rows.length + 1)
    rw [Nat.mul_succ]
    omega
theorem hide_upd {D : Addr} {H5 H6 : Hp} {o : HO} (s : Same H5 H6) : Same (hide D H5) (hide D (upd H6 D o)) := fun b x e => by
  by_cases h : b = D
  · unfold hide at e
    rw [if_pos h] at e
    cases e
  · rw [hide_ne h] at e ⊢
    rw [upd_ne h]
    exact s b x e
/-- one more row behind a list that is being made -/
theorem RowsL.grow {K : PySem.W.Frag} {D t : Addr} {H5 H6 : Hp} {ts : List V} {rows : List (List Nat)} {ms : List Nat} {o : HO} (s : Same H5 H6) (h : RowsL K (hide D H5) ts rows) (nt : t ≠ D) (ht : H6 t = some (.tup (setV ms))) : RowsL K (hide D (upd H6 D o)) (ts ++ [V.ref t]) (rows ++ [ms]) :=
  RowsL.app (h.same (hide_upd s)) (.cons ⟨t, rfl, SqT.of (by rw [hide_ne nt, upd_ne nt]; exact ht)⟩ .nil)
theorem RowsL.show {K : PySem.W.Frag} {D : Addr} {H : Hp} {ts : List V} {rows : List (List Nat)} (h : RowsL K (hide D H) ts rows) : RowsL K H ts rows := h.same (hide_same D H)
theorem range_rows {α : Type} (f : Nat → α) (z : Nat) : (List.range (z + 1)).map f = (List.range z).map f ++ [f z] := by
  rw [List.range_succ, List.map_append]
  rfl
/-! ### tables: tuples of tuples of servers -/
theorem paired_app {α β : Type} {R : α → β → Prop} {xs ys : List α} {L M : List β} (h : PySem.Paired R xs L) (g : PySem.Paired R ys M) : PySem.Paired R (xs ++ ys) (L ++ M) := by
  induction h with
  | nil => exact g
  | cons a _ ih => exact .cons a ih
/-- a tuple of tuples of servers -/
def TabAt (K : PySem.W.Frag) (H : Hp) (a : Addr) (rows : List (List Nat)) : Prop := ∃ ts : List V, SqT K H a ts ∧ PySem.Paired (fun v ms => ∃ t, v = V.ref t ∧ SqT K H t (setV ms)) ts rows
def stdRows (n d c : Nat) : List (List Nat) := (List.range c).map fun k => (path n d c k).1
theorem TabAt.same {K : PySem.W.Frag} {H H' : Hp} {a : Addr} {rows : List (List Nat)} (s : Same H H') (h : TabAt K H a rows) : TabAt K H' a rows := by
  obtain ⟨ts, h1, h2⟩ := h
  exact ⟨ts, Same.seqT s h1, PySem.Paired.mono (fun v ms ⟨t, e, z⟩ => ⟨t, e, Same.seqT s z⟩) h2⟩
/-! ### values that may be odd, in a heap of their own -/
/-- fit to be shown, dicts or not -/
def Szd (k wt : Nat) (d : PyData) : Prop := d.depth ≤ k ∧ d.showable = true ∧ d.leavesShort 200 = true ∧ d.weight ≤ wt
def Val (K : PySem.W.Frag) (G : Hp) (k wt : Nat) (v : V) : Prop := (∃ t, VT K G v t ∧ ∀ ts, t = .tup ts → ts.length ≤ 1000) ∧ ∃ d, (Dp K G v d ∧ Sh k wt d) ∨ (∃ a, v = .ref a ∧ Dd K G v d ∧ Szd k wt d)
theorem Szd.fits {k wt : Nat} {d : PyData} (h : Szd k wt d) (h1 : wt ≤ 80000) : d.shown.length ≤ sizeLine := by
  have h2 := PyData.shown_le 200 (by decide) d h.2.2.1
  have h3 := h.2.2.2
  have h4 : (200 + 2) * d.weight ≤ 202 * 80000 := Nat.mul_le_mul (by omega) (by omega)
  have h5 : sizeLine = 16777216 := by decide
  omega
theorem Val.show {K : PySem.W.Frag} {G : Hp} {k wt : Nat} {v : V} (h : Val K G k wt v) (hk : k ≤ 60) (hw : wt ≤ 80000) : ∃ d, ShowD K G v d := by
  obtain ⟨_, d, h | ⟨a, e, h1, h2⟩⟩ := h
  · exact ⟨d, .inl ⟨h.1, h.2.mono hk hw⟩⟩
  · exact ⟨d, .inr ⟨a, e, h1, h2.2.1, Nat.le_trans h2.1 hk, h2.fits hw⟩⟩
theorem dp_sameV {K : PySem.W.Frag} {G G' : Hp} (s : Same G G') {v : V} {d : PyData} (h : Dp K G v d) : Dp K G' v d := Dp.mono (fun b o e => s b o e) h
theorem dd_sameV {K : PySem.W.Frag} {G G' : Hp} (s : Same G G') {v : V} {d : PyData} (h : Dd K G v d) : Dd K G' v d := Dd.mono (fun b o e _ => s b o e) h
theorem Val.same {K : PySem.W.Frag} {G G' : Hp} {k wt : Nat} {v : V} (s : Same G G') (h : Val K G k wt v) : Val K G' k wt v := by
  obtain ⟨⟨t, ht, hl⟩, d, h⟩ := h
  refine ⟨⟨t, VT.same s ht, hl⟩, d, ?_⟩
  rcases h with h | ⟨a, e, h1, h2⟩
  · exact .inl ⟨dp_sameV s h.1, h.2⟩
  · exact .inr ⟨a, e, dd_sameV s h1, h2⟩
theorem showd_same {K : PySem.W.Frag} {G G' : Hp} {v : V} {d : PyData} (s : Same G G') (h : ShowD K G v d) : ShowD K G' v d := by
  rcases h with h | ⟨a, e, h1, h2⟩
  · exact .inl ⟨dp_sameV s h.1, h.2⟩
  · exact .inr ⟨a, e, dd_sameV s h1, h2⟩
/-- from G in H to G' in H': p alone changes, what is new may be told of -/
def Grow (p : Addr) (G H G' H' : Hp) : Prop := Same G G' ∧ Same G' H' ∧ G' p = none ∧ (∀ b, G b = none → H b ≠ none → G' b = none) ∧ But p H H'
def growH (G H H' : Hp) : Hp := fun b => match G b with
  | some o => some o
  | none => match H b with
    | some _ => none
    | none => H' b
theorem grow_mk {p : Addr} {G H Hf H' : Hp} (s : Same G H) (gp : G p = none) (hp : H p ≠ none) (sf : Same H Hf) (b : But p Hf H') : Grow p G H (growH G H Hf) H' ∧ ∀ x o, Hf x = some o → H x = none → growH G H Hf x = some o := by
  have e1 : Same G (growH G H Hf) := fun x o e => by
    show (match G x with | some o => some o | none => _) = some o
    rw [e]
  have e2 : Same (growH G H Hf) Hf := fun x o e => by
    unfold growH at e
    cases g : G x with
    | some u =>
      rw [g] at e
      cases e
      exact sf _ _ (s _ _ g)
    | none =>
      rw [g] at e
      cases h : H x with
      | some u => rw [h] at e; cases e
      | none => rw [h] at e; exact e
  have e3 : ∀ x, G x = none → H x ≠ none → growH G H Hf x = none := fun x g h => by
    unfold growH
    rw [g]
    cases h2 : H x with
    | some u => rfl
    | none => exact absurd h2 h
  have e4 := e3 p gp hp
  refine ⟨⟨e1, fun x o e => b x o (fun z => by rw [z, e4] at e; cases e) (e2 x o e), e4, e3, fun x o n e => b x o n (sf x o e)⟩, fun x o e n => ?_⟩
  have g : G x = none := by
    cases g : G x with
    | none => rfl
    | some u => rw [s _ _ g] at n; cases n
  unfold growH
  rw [g, n]
  exact e
theorem Grow.trans {p : Addr} {G H G1 H1 G2 H2 : Hp} (a : Grow p G H G1 H1) (b : Grow p G1 H1 G2 H2) : Grow p G H G2 H2 := by
  obtain ⟨a1, a2, a3, a4, a5⟩ := a
  obtain ⟨b1, b2, b3, b4, b5⟩ := b
  refine ⟨a1.trans b1, b2, b3, fun x g h => ?_, a5.trans b5⟩
  by_cases e : x = p
  · rw [e]; exact b3
  · refine b4 x (a4 x g h) fun z => ?_
    cases h2 : H x with
    | none => exact h h2
    | some u =>
      rw [a5 x u e h2] at z
      cases z
theorem Grow.refl {p : Addr} {G H : Hp} (s : Same G H) (gp : G p = none) : Grow p G H G H := ⟨Same.refl _, s, gp, fun x g _ => g, But.refl p H⟩
/-- single values -/
theorem val_int {K : PySem.W.Frag} {G : Hp} {i : Int} (h : i.natAbs < 2 ^ 70) : Val K G 2 1000 (.int i) := ⟨⟨.int i, .int i, fun ts e => by cases e⟩, .int i, .inl ⟨.int i, (Sh.int (by decide) (by decide) h).mono (by decide) (by decide)⟩⟩
theorem val_non {K : PySem.W.Frag} {G : Hp} : Val K G 2 1000 .non := ⟨⟨.oth "NoneType", .oth (.base .non) (by decide) (by decide) (by decide), fun ts e => by cases e⟩, .none, .inl ⟨.non, Sh.none.mono (by decide) (by decide)⟩⟩
theorem val_bl {K : PySem.W.Frag} {G : Hp} (b : Bool) : Val K G 2 1000 (.bl b) := ⟨⟨.oth "bool", .oth (.base (.bl b)) (by decide) (by decide) (by decide), fun ts e => by cases e⟩, .bool b, .inl ⟨.bl b, (Sh.bool b).mono (by decide) (by decide)⟩⟩
theorem sh_zero13 : Sh 0 100 (.str "0") := ⟨by decide +kernel, by decide +kernel, by decide +kernel, by decide +kernel, by decide +kernel⟩
theorem val_zero {K : PySem.W.Frag} {G : Hp} : Val K G 2 1000 (.str "0") := ⟨⟨.oth "str", .oth (.base (.str "0")) (by decide) (by decide) (by decide), fun ts e => by cases e⟩, .str "0", .inl ⟨.str "0", sh_zero13.mono (by decide) (by decide)⟩⟩
theorem vts_setV {K : PySem.W.Frag} {G : Hp} : ∀ r : List Nat, VTs K G (setV r) (r.map fun (x : Nat) => TD.int (x : Int))
  | [] => .nil
  | x :: r => .cons (.int _) (vts_setV r)
theorem sh_rowV {r : List Nat} (hl : r.length ≤ 62) (h : ∀ x ∈ r, x < 60) : ShAll 0 434 (natD r) := by
  have h1 := sh_nat (b := 6) (by decide) (by decide) (ms := r) fun x hx => by
    have := h x hx
    omega
  exact h1.mono (by decide) (by omega)
theorem val_row {K : PySem.W.Frag} {G : Hp} {t : Addr} {r : List Nat} (ht : SqT K G t (setV r)) (hl : r.length ≤ 62) (h : ∀ x ∈ r, x < 60) : Val K G 2 1000 (.ref t) := ⟨⟨_, .tup ht (vts_setV r), fun ts e => by cases e; rw [List.length_map]; omega⟩, _, .inl ⟨.tup ht (dp_set r), (Sh.tup (sh_rowV hl h)).mono (by decide) (by decide)⟩⟩
theorem val_listV {K : PySem.W.Frag} {G : Hp} {t : Addr} {r : List Nat} (ht : G t = some (.lst (setV r))) (hl : r.length ≤ 62) (h : ∀ x ∈ r, x < 60) : Val K G 2 1000 (.ref t) := ⟨⟨.oth "list", .oth (.base (.lst ht)) (by decide) (by decide) (by decide), fun ts e => by cases e⟩, _, .inl ⟨.lst (SqL.of ht) (dp_set r), (Sh.lst (sh_rowV hl h)).mono (by decide) (by decide)⟩⟩
/-- one: a server or a list -/
def One13 (K : PySem.W.Frag) (G : Hp) (v : V) : Prop := (∃ i : Nat, v = .int i ∧ i < 60) ∨ ∃ t r, v = .ref t ∧ SqT K G t (setV r) ∧ 1 ≤ r.length ∧ r.length ≤ 60 ∧ ∀ x ∈ r, x < 60
theorem One13.vt {K : PySem.W.Frag} {G : Hp} {v : V} (h : One13 K G v) : ∃ t d, VT K G v t ∧ Dp K G v d ∧ Sh 1 450 d := by
  rcases h with ⟨i, rfl, hi⟩ | ⟨t, r, rfl, ht, _, hl, h⟩
  · exact ⟨_, _, .int i, .int i, (Sh.int (b := 6) (by decide) (by decide) (by omega)).mono (by decide) (by decide)⟩
  · exact ⟨_, _, .tup ht (vts_setV r), .tup ht (dp_set r), (Sh.tup (sh_rowV (by omega) h)).mono (by decide) (by decide)⟩
theorem val_tup1 {K : PySem.W.Frag} {G : Hp} {v : V} {t : Addr} (h : One13 K G v) (ht : SqT K G t [v]) : Val K G 2 1000 (.ref t) := by
  obtain ⟨td, d, h1, h2, h3⟩ := h.vt
  exact ⟨⟨_, .tup ht (.cons h1 .nil), fun ts e => by cases e; show 1 ≤ 1000; decide⟩, _, .inl ⟨.tup ht (.cons h2 .nil), (Sh.tup (ShAll.cons h3 (ShAll.nil.mono (Nat.zero_le _) (Nat.le_refl _)))).mono (by decide) (by decide)⟩⟩
theorem val_lst1 {K : PySem.W.Frag} {G : Hp} {v : V} {t : Addr} (h : One13 K G v) (ht : G t = some (.lst [v])) : Val K G 2 1000 (.ref t) := by
  obtain ⟨td, d, h1, h2, h3⟩ := h.vt
  exact ⟨⟨.oth "list", .oth (.base (.lst ht)) (by decide) (by decide) (by decide), fun ts e => by cases e⟩, _, .inl ⟨.lst (SqL.of ht) (.cons h2 .nil), (Sh.lst (ShAll.cons h3 (ShAll.nil.mono (Nat.zero_le _) (Nat.le_refl _)))).mono (by decide) (by decide)⟩⟩
theorem szd_empty : Szd 2 1000 (.dict []) := ⟨by decide +kernel, by decide +kernel, by decide +kernel, by decide +kernel⟩
theorem val_dic0 {K : PySem.W.Frag} {G : Hp} {t : Addr} (ht : G t = some (.dK [])) : Val K G 2 1000 (.ref t) := ⟨⟨.oth "dict", .oth (.base (.dK ht)) (by decide) (by decide) (by decide), fun ts e => by cases e⟩, _, .inr ⟨t, rfl, .dic ht, szd_empty⟩⟩
theorem val_dic1 {K : PySem.W.Frag} {G : Hp} {p t : Addr} {r : List Nat} (hp : G p = some (.dK [(.inl 0, .ref t)])) (ht : SqT K G t (setV r)) (hl : r.length ≤ 62) (h : ∀ x ∈ r, x < 60) : Val K G 2 1000 (.ref p) := by
  refine ⟨⟨.oth "dict", .oth (.base (.dK hp)) (by decide) (by decide) (by decide), fun ts e => by cases e⟩, _, .inr ⟨p, rfl, .dic1 (ns := intL r) hp (by rw [← setV_ints]; exact ht), ?_⟩⟩
  have s := Sh.tup (sh_rowV hl h)
  rw [natD_ints] at s
  generalize PyData.tuple ((intL r).map PyData.int) = e at s ⊢
  refine ⟨?_, ?_, ?_, ?_⟩
  · show max (max (PyData.depth (.int 0)) (PyData.depth e)) 0 + 1 ≤ 2
    have := s.dep
    have z : PyData.depth (.int 0) = 0 := by decide +kernel
    omega
  · show (PyData.showable (.int 0) && PyData.showable e && true) = true
    rw [s.shw]
    decide +kernel
  · show (PyData.leavesShort 200 (.int 0) && PyData.leavesShort 200 e && true) = true
    rw [s.lvs]
    decide +kernel
  · show PyData.weight (.int 0) + PyData.weight e + 2 + 0 ≤ 1000
    have := s.wgt
    have z : PyData.weight (.int 0) = 0 := by decide +kernel
    omega
/-! ### another value in the place of an entry -/
def spOdd13 (K : PySem.W.Frag) : Sp := fun vs H Q _ => ∃ (p : Addr) (m n : Nat) (one : V) (G : Hp), vs = [.ref p, .int n, one] ∧ PotAt H p m ∧ m ≤ 100000 ∧ 2 ≤ n ∧ n ≤ 60 ∧ Same G H ∧ G p = none ∧ One13 K G one ∧
  ∀ H' G' v, Grow p G H G' H' → PotAt H' p (m + 1) → Val K G' 2 1000 v → Q v H'
section
variable {P : Program} {w : World} {K : PySem.W.Frag} {mg : Str → Option Value} {base : Heap}
theorem ok_odd13 (T : Txt K mg) {j : Nat} : FnOk P w K mg base CX0 (j + 3) T.fOdd13 T.fdOdd13 ["_law_pot_here", "_law_n", "_law_one"] (spOdd13 K) := by
  refine T.FOdd13.ok scOdd13 (fun vs H Q E h => ?_) (fun cdv A outer s H vs Q E hr h => ?_)
  · obtain ⟨p, m, n, one, G, rfl, _⟩ := h
    rfl
  · obtain ⟨p, m, n, one, G, rfl, hP, hm, hn2, hn, sG, gp, h1, q⟩ := h
    refine ⟨_, pss_cons (ps_set (i := 3) scOdd13.nd rfl (.inl rfl) (pe_lst (pa_cons pe_non (pa_cons pe_bl (pa_cons pe_bl (pa_cons (pe_un un_neg pe_int) (pa_cons (pv 1) (pa_cons (pe_op op_sub (pv 1) pe_int) (pa_cons pe_int (pa_cons pe_str (pa_cons (pe_tup pa_nil) (pa_cons (pe_lst pa_nil) (pa_cons pe_dnewK (pa_cons (pe_op op_pow pe_int pe_int) (pa_cons (pe_tup (pa_cons (pv 2) pa_nil)) (pa_cons (pe_lst (pa_cons (pv 2) pa_nil)) pa_nil)))))))))))))))) (C8.pss_cut (ps_if (pt_val (pe_callB (call_isiK1 K) (by rfl) T.n_isinstance (by decide +kernel) (pa_cons (pv 2) (pa_cons (pe_bltn (v := .ty "tuple") (by rfl) T.n_tuple (by decide +kernel) rfl) pa_nil)))) (pss_one (ps_set (i := 3) scOdd13.nd rfl (.inl rfl) (pe_op op_cat (pe_slice (sl_listK (K := K)) (pv 3) po_none (po_some pe_int)) (pe_lst (pa_cons (pe_callTy (call_listK K) (by rfl) T.n_list (by decide +kernel) (pa_cons (pv 2) pa_nil)) (pa_cons (pe_op op_catT (pv 2) (pe_slice (sl_tupS K) (pv 2) po_none (po_some pe_int))) (pa_cons (pe_slice sl_tup (pv 2) (po_some pe_int) po_none) (pa_cons (pe_revT (pv 2)) (pa_cons (pe_slice sl_tup (pv 2) po_none (po_some (pe_un un_neg pe_int))) (pa_cons (pe_tup pa_nil) (pa_cons (pe_tup (pa_cons (pv 2) pa_nil)) (pa_cons (pe_disp (pps_cons pe_int (pv 2) pps_nil) rfl rfl (List.cons_ne_nil _ _) (by show 1 ≤ 15; decide)) pa_nil)))))))))))) pss_nil) (pss_one (ps_ret (pe_call (ok_of T) hr (by rfl) T.gOf T.FOf.kp T.bOf .nil pass0 (pa_cons (pv 0) (pa_cons (pv 3) pa_nil)))))), ?_⟩
    have hp : H p ≠ none := by
      obtain ⟨a, b, c, h, _⟩ := hP
      rw [h]
      exact fun z => by cases z
    let NV : Hp → V → Prop := fun Hx v => ∀ G', Same G G' → (∀ x o, Hx x = some o → H x = none → G' x = some o) → Val K G' 2 1000 v
    have nvm : ∀ {Hx Hy : Hp} {v : V}, Same Hx Hy → NV Hx v → NV Hy v := fun s h G' a b => h G' a fun x o e n => b x o (s _ _ e) n
    have oneV : ∀ {G' : Hp}, Same G G' → One13 K G' one := fun s => by
      rcases h1 with ⟨i, e, hi⟩ | ⟨t, r, e, ht, a, b, c⟩
      · exact .inl ⟨i, e, hi⟩
      · exact .inr ⟨t, r, e, Same.seqT s ht, a, b, c⟩
    refine ⟨_, rfl, _, rfl, _, rfl, _, _, rfl, rfl, by show 0 ≤ sizeLine; decide, fun t1 nt1 => ?_⟩
    have s1 := same_new (o := .tup []) nt1
    have h1t : (upd H t1 (.tup [])) t1 = some (.tup []) := upd_same
    show tCons _ _ _ (upd H t1 (.tup [])) _
    generalize upd H t1 (.tup []) = H1 at s1 h1t ⊢
    refine ⟨by show 0 ≤ sizeLine; decide, fun t2 nt2 => ?_⟩
    have s2 := same_new (o := .lst []) nt2
    have h2t : (upd H1 t2 (.lst [])) t2 = some (.lst []) := upd_same
    show tCons _ _ _ (upd H1 t2 (.lst [])) _
    generalize upd H1 t2 (.lst []) = H2 at s2 h2t ⊢
    intro t3 nt3
    have s3 := same_new (o := .dK []) nt3
    have h3t : (upd H2 t3 (.dK [])) t3 = some (.dK []) := upd_same
    show tCons _ _ _ (upd H2 t3 (.dK [])) _
    generalize upd H2 t3 (.dK []) = H3 at s3 h3t ⊢
    refine ⟨_, _, rfl, rfl, ⟨by decide, by decide, by decide⟩, _, rfl, by show 1 ≤ sizeLine; decide, fun t4 nt4 => ?_⟩
    have s4 := same_new (o := .tup [one]) nt4
    have h4t : (upd H3 t4 (.tup [one])) t4 = some (.tup [one]) := upd_same
    show tCons _ _ _ (upd H3 t4 (.tup [one])) _
    generalize upd H3 t4 (.tup [one]) = H4 at s4 h4t ⊢
    refine ⟨_, rfl, by show 1 ≤ sizeLine; decide, fun t5 nt5 => ?_⟩
    have s5 := same_new (o := .lst [one]) nt5
    have h5t : (upd H4 t5 (.lst [one])) t5 = some (.lst [one]) := upd_same
    show tNil _ (upd H4 t5 (.lst [one])) _
    generalize upd H4 t5 (.lst [one]) = H5 at s5 h5t ⊢
    have s15 := ((s2.trans s3).trans s4).trans s5
    have sH2 := s1.trans s2
    have sH3 := sH2.trans s3
    have sH4 := sH3.trans s4
    have sH5 := sH4.trans s5
    refine ⟨by show 14 ≤ sizeLine; decide, fun l nl => ?_⟩
    have e20 : (10 : Int) ^ (20 : Int).toNat = 100000000000000000000 := by decide
    generalize hvs : [V.non, V.bl true, V.bl false, V.int (-1), V.int (n : Int), V.int ((n : Int) - 1), V.int 0, V.str "0", V.ref t1, V.ref t2, V.ref t3, V.int ((10 : Int) ^ (20 : Int).toNat), V.ref t4, V.ref t5] = vs0
    have NV0 : ∀ v ∈ vs0, NV H5 v := by
      rw [← hvs]
      intro v hv G' sGG new
      have f1 := new t1 _ (s15 _ _ h1t) nt1
      have f2 := new t2 _ (((s3.trans s4).trans s5) _ _ h2t) (s1.free nt2)
      have f3 := new t3 _ ((s4.trans s5) _ _ h3t) (sH2.free nt3)
      have f4 := new t4 _ (s5 _ _ h4t) (sH3.free nt4)
      have f5 := new t5 _ h5t (sH4.free nt5)
      simp only [List.mem_cons, List.not_mem_nil, or_false] at hv
      rcases hv with rfl | rfl | rfl | rfl | rfl | rfl | rfl | rfl | rfl | rfl | rfl | rfl | rfl | rfl
      · exact val_non
      · exact val_bl true
      · exact val_bl false
      · exact val_int (by decide)
      · exact val_int (by omega)
      · exact val_int (by omega)
      · exact val_int (by decide)
      · exact val_zero
      · exact val_row (r := []) (SqT.of f1) (by decide) (by simp)
      · exact val_listV (r := []) f2 (by decide) (by simp)
      · exact val_dic0 f3
      · exact val_int (by rw [e20]; decide)
      · exact val_tup1 (oneV sGG) (SqT.of f4)
      · exact val_lst1 (oneV sGG) f5
    have vl0 : vs0.length = 14 := by rw [← hvs]; rfl
    have t6 : ∀ v ∈ vs0.take 6, NV H5 v := fun v hv => NV0 v (List.mem_of_mem_take hv)
    have s6 := same_new (o := .lst vs0) nl
    have hl : (upd H5 l (.lst vs0)) l = some (.lst vs0) := upd_same
    show gName 3 (.ref l) _ (upd H5 l (.lst vs0)) _
    generalize upd H5 l (.lst vs0) = H6 at s6 hl ⊢
    have sH6 := sH5.trans s6
    clear hvs s1 s2 s3 s4 s5 s15 sH2 sH3 sH4 h1t h2t h3t h4t h5t nt1 nt2 nt3 nt4 nt5
    dsimp only [gName]
    have nlH : H l = none := sH5.free nl
    refine ⟨fun σ Hx => ∃ l2 vs, σ = [some (.ref p), some (.int (n : Int)), some one, some (.ref l2)] ∧ Same H Hx ∧ H l2 = none ∧ Hx l2 = some (.lst vs) ∧ 1 ≤ vs.length ∧ vs.length ≤ 20 ∧ ∀ v ∈ vs, NV Hx v, ?_, ?_⟩
    · rcases h1 with ⟨i1, rfl, hi1⟩ | ⟨t, r, rfl, ht, hr1, hr2, hr3⟩
      · refine ⟨_, rfl, _, .ty "tuple", _, _, _, rfl, .ty _, .base (.int _), kit_tuple (t := "int") (by decide), _, rfl, iteF ?_⟩
        exact ⟨l, vs0, rfl, sH6, nlH, hl, by omega, by omega, fun v hv => nvm s6 (NV0 v hv)⟩
      have htH := Same.seqT (sG.trans sH6) ht
      refine ⟨_, rfl, _, .ty "tuple", _, _, _, rfl, .ty _, (VT.ty (.tup htH (vts_setV r))).1, kit_tuple (t := "tuple") (by decide), _, rfl, iteT ?_⟩
      refine ⟨.ref l, rfl, 6, rfl, l, _, rfl, SqL.of hl, fun a0 na0 => ?_⟩
      rw [show cutV vs0 none (some (6 : Int)) = vs0.take 6 by
        unfold cutV
        rw [HT.sIx_none, show (6 : Int) = ((6 : Nat) : Int) from rfl, HT.sIx_nat, Nat.min_eq_left (by omega)]
        rfl]
      have za0 := same_new (o := .lst (vs0.take 6)) na0
      have fa0 : (upd H6 a0 (.lst (vs0.take 6))) a0 = some (.lst (vs0.take 6)) := upd_same
      show tLst _ _ (upd H6 a0 (.lst (vs0.take 6))) _
      generalize upd H6 a0 (.lst (vs0.take 6)) = H7 at za0 fa0 ⊢
      refine ⟨_, rfl, t, _, rfl, .inr (Same.seqT za0 htH), fun a1 na1 => ?_⟩
      have za1 := same_new (o := .lst (setV r)) na1
      have fa1 : (upd H7 a1 (.lst (setV r))) a1 = some (.lst (setV r)) := upd_same
      show tCons _ _ _ (upd H7 a1 (.lst (setV r))) _
      generalize upd H7 a1 (.lst (setV r)) = H8 at za1 fa1 ⊢
      have ht8 := Same.seqT (za0.trans za1) htH
      refine ⟨_, rfl, _, rfl, 1, rfl, t, _, rfl, ht8, fun a2 H9 s9 h2 => ?_⟩
      have c1 : cutV (setV r) none (some (1 : Int)) = setV (r.take 1) := by
        unfold cutV setV
        rw [HT.sIx_none, show (1 : Int) = ((1 : Nat) : Int) from rfl, HT.sIx_nat, List.length_map, Nat.min_eq_left hr1, List.map_take]
        rfl
      rw [c1] at h2
      have ht9 := Same.seqT s9 ht8
      have l1 : (r.take 1).length = 1 := by rw [List.length_take]; omega
      refine ⟨t, a2, _, _, rfl, rfl, ht9, h2, fun e => by have := congrArg List.length e; rw [setV_len] at this; have : r.length = 0 := this; omega, by rw [setV_len, setV_len, l1, sizeLine_eq]; omega, fun e => absurd (congrArg List.length e) (by rw [setV_len, l1]; decide), fun _ a3 na3 => ?_⟩
      rw [← setV_app]
      have za3 := same_new (o := .tup (setV (r ++ r.take 1))) na3
      have fa3 : (upd H9 a3 (.tup (setV (r ++ r.take 1)))) a3 = some (.tup (setV (r ++ r.take 1))) := upd_same
      show tCons _ _ _ (upd H9 a3 (.tup (setV (r ++ r.take 1)))) _
      generalize upd H9 a3 (.tup (setV (r ++ r.take 1))) = H10 at za3 fa3 ⊢
      have ht10 := Same.seqT za3 ht9
      have cd : cutV (setV r) (some (1 : Int)) none = setV (r.drop 1) := by
        unfold cutV setV
        rw [HT.sIx_none, show (1 : Int) = ((1 : Nat) : Int) from rfl, HT.sIx_nat, List.length_map, Nat.min_eq_left hr1, List.map_drop, List.take_of_length_le (by rw [List.length_drop, List.length_map]; exact Nat.le_refl _)]
      refine ⟨_, rfl, 1, rfl, t, _, rfl, ht10, fun z => ?_, fun a4 na4 => ?_⟩
      · have z1 := z.1
        rw [show (1 : Int) = ((1 : Nat) : Int) from rfl, HT.sIx_nat, setV_len, Nat.min_eq_left hr1] at z1
        cases z1
      rw [cd]
      have za4 := same_new (o := .tup (setV (r.drop 1))) na4
      have fa4 : (upd H10 a4 (.tup (setV (r.drop 1)))) a4 = some (.tup (setV (r.drop 1))) := upd_same
      show tCons _ _ _ (upd H10 a4 (.tup (setV (r.drop 1)))) _
      generalize upd H10 a4 (.tup (setV (r.drop 1))) = H11 at za4 fa4 ⊢
      have ht11 := Same.seqT za4 ht10
      refine ⟨_, rfl, t, _, rfl, ht11, fun a5 na5 => ?_⟩
      rw [show (setV r).reverse = setV r.reverse by unfold setV; rw [List.map_reverse]]
      have za5 := same_new (o := .tup (setV r.reverse)) na5
      have fa5 : (upd H11 a5 (.tup (setV r.reverse))) a5 = some (.tup (setV r.reverse)) := upd_same
      show tCons _ _ _ (upd H11 a5 (.tup (setV r.reverse))) _
      generalize upd H11 a5 (.tup (setV r.reverse)) = H12 at za5 fa5 ⊢
      have ht12 := Same.seqT za5 ht11
      have ex : HT.sIx (setV r).length (setV r).length (some (-1)) = r.length - 1 := by
        rw [setV_len, show HT.sIx r.length r.length (some (-1)) = (-1 + (r.length : Int)).toNat by unfold HT.sIx; exact if_pos (by decide)]
        omega
      have ce : cutV (setV r) none (some (-1)) = setV (r.take (r.length - 1)) := by
        unfold cutV
        rw [ex, HT.sIx_none, List.drop_zero, Nat.sub_zero]
        unfold setV
        rw [List.map_take]
      refine ⟨_, rfl, _, rfl, -1, rfl, t, _, rfl, ht12, fun z => ?_, fun a6 na6 => ?_⟩
      · have z1 := z.2
        rw [ex, setV_len] at z1
        omega
      rw [ce]
      have za6 := same_new (o := .tup (setV (r.take (r.length - 1)))) na6
      have fa6 : (upd H12 a6 (.tup (setV (r.take (r.length - 1))))) a6 = some (.tup (setV (r.take (r.length - 1)))) := upd_same
      show tCons _ _ _ (upd H12 a6 (.tup (setV (r.take (r.length - 1))))) _
      generalize upd H12 a6 (.tup (setV (r.take (r.length - 1)))) = H13 at za6 fa6 ⊢
      have ht13 := Same.seqT za6 ht12
      refine ⟨by show 0 ≤ sizeLine; decide, fun a7 na7 => ?_⟩
      have za7 := same_new (o := .tup []) na7
      have fa7 : (upd H13 a7 (.tup [])) a7 = some (.tup []) := upd_same
      show tCons _ _ _ (upd H13 a7 (.tup [])) _
      generalize upd H13 a7 (.tup []) = H14 at za7 fa7 ⊢
      refine ⟨_, rfl, by show 1 ≤ sizeLine; decide, fun a8 na8 => ?_⟩
      have za8 := same_new (o := .tup [V.ref t]) na8
      have fa8 : (upd H14 a8 (.tup [V.ref t])) a8 = some (.tup [V.ref t]) := upd_same
      show tCons _ _ _ (upd H14 a8 (.tup [V.ref t])) _
      generalize upd H14 a8 (.tup [V.ref t]) = H15 at za8 fa8 ⊢
      intro a9 na9
      refine ⟨_, rfl, upd_same, [(.inl 0, .ref t)], rfl, by show 1 ≤ 15; decide, ?_⟩
      have za9 : Same H15 (upd (upd H15 a9 (.dK [])) a9 (.dK [(.inl 0, .ref t)])) := keep_upd (same_new na9) na9
      have fa9 : (upd (upd H15 a9 (.dK [])) a9 (.dK [(.inl 0, .ref t)])) a9 = some (.dK [(.inl 0, .ref t)]) := upd_same
      show tNil _ (upd (upd H15 a9 (.dK [])) a9 (.dK [(.inl 0, .ref t)])) _
      generalize upd (upd H15 a9 (.dK [])) a9 (.dK [(.inl 0, .ref t)]) = H16 at za9 fa9 ⊢
      refine ⟨by show 8 ≤ sizeLine; decide, fun a10 na10 => ?_⟩
      have hm : r.length - 1 ≤ 60 := by omega
      generalize hv8 : [V.ref a1, V.ref a3, V.ref a4, V.ref a5, V.ref a6, V.ref a7, V.ref a8, V.ref a9] = v8
      have za10 := same_new (o := .lst v8) na10
      have fa10 : (upd H16 a10 (.lst v8)) a10 = some (.lst v8) := upd_same
      show rCat _ _ (upd H16 a10 (.lst v8)) _
      generalize upd H16 a10 (.lst v8) = H17 at za10 fa10 ⊢
      have k7 := sH6.trans za0
      have k8 := k7.trans za1
      have k9 := k8.trans s9
      have k10 := k9.trans za3
      have k11 := k10.trans za4
      have k12 := k11.trans za5
      have k13 := k12.trans za6
      have k14 := k13.trans za7
      have k15 := k14.trans za8
      have k16 := k15.trans za9
      have k17 := k16.trans za10
      have m15 := za9.trans za10
      have m14 := za8.trans m15
      have m13 := za7.trans m14
      have m12 := za6.trans m13
      have m11 := za5.trans m12
      have m10 := za4.trans m11
      have m9 := za3.trans m10
      have m8 := s9.trans m9
      have m7 := za1.trans m8
      have len8 : v8.length = 8 := by rw [← hv8]; rfl
      have NV8 : ∀ v ∈ v8, NV H17 v := by
        rw [← hv8]
        intro v hv G' sGG new
        have g1 := new a1 _ (m8 _ _ fa1) (k7.free na1)
        have g3 := new a3 _ (m10 _ _ fa3) (k9.free na3)
        have g4 := new a4 _ (m11 _ _ fa4) (k10.free na4)
        have g5 := new a5 _ (m12 _ _ fa5) (k11.free na5)
        have g6 := new a6 _ (m13 _ _ fa6) (k12.free na6)
        have g7 := new a7 _ (m14 _ _ fa7) (k13.free na7)
        have g8 := new a8 _ (m15 _ _ fa8) (k14.free na8)
        have g9 := new a9 _ (za10 _ _ fa9) (k15.free na9)
        have gt := Same.seqT sGG ht
        simp only [List.mem_cons, List.not_mem_nil, or_false] at hv
        rcases hv with rfl | rfl | rfl | rfl | rfl | rfl | rfl | rfl
        · exact val_listV g1 (by omega) hr3
        · exact val_row (SqT.of g3) (by rw [List.length_append, l1]; omega) (fun x hx => (List.mem_append.mp hx).elim (hr3 x) fun h => hr3 x (List.mem_of_mem_take h))
        · exact val_row (SqT.of g4) (by rw [List.length_drop]; omega) (fun x hx => hr3 x (List.mem_of_mem_drop hx))
        · exact val_row (SqT.of g5) (by rw [List.length_reverse]; omega) (fun x hx => hr3 x (List.mem_reverse.mp hx))
        · exact val_row (SqT.of g6) (by rw [List.length_take]; omega) (fun x hx => hr3 x (List.mem_of_mem_take hx))
        · exact val_row (r := []) (SqT.of g7) (by decide) (by simp)
        · exact val_tup1 (oneV sGG) (SqT.of g8)
        · exact val_dic1 g9 gt (by omega) hr3
      refine ⟨a0, a10, _, _, rfl, rfl, m7 _ _ fa0, fa10, by rw [len8, List.length_take, vl0, sizeLine_eq]; decide, fun l2 nl2 => ?_⟩
      have zl2 := same_new (o := .lst (vs0.take 6 ++ v8)) nl2
      have fl2 : (upd H17 l2 (.lst (vs0.take 6 ++ v8))) l2 = some (.lst (vs0.take 6 ++ v8)) := upd_same
      show gName 3 (.ref l2) _ (upd H17 l2 (.lst (vs0.take 6 ++ v8))) _
      generalize upd H17 l2 (.lst (vs0.take 6 ++ v8)) = H18 at zl2 fl2 ⊢
      refine ⟨l2, _, rfl, k17.trans zl2, k17.free nl2, fl2, by rw [List.length_append, len8]; omega, by rw [List.length_append, len8, List.length_take]; omega, fun v hv => ?_⟩
      rcases List.mem_append.mp hv with h | h
      · exact nvm (s6.trans (za0.trans (m7.trans zl2))) (t6 v h)
      · exact nvm zl2 (NV8 v h)
    rintro σ Hx ⟨l2, vs, rfl, sx, nl2, hl2, v1, v2, nv⟩
    refine ⟨.ref p, rfl, .ref l2, rfl, p, _, l2, vs, rfl, hP.same sx, by omega, hl2, fun e => hp (by rw [← e]; exact nl2), v1, by omega, fun v H' hv P' B' => ?_⟩
    obtain ⟨gr, new⟩ := grow_mk sG gp hp sx B'
    exact q _ _ v gr P' (nv v hv _ gr.1 new)
end
/-! ### a tuple of plain things with one odd thing among them -/
inductive PlL (K : PySem.W.Frag) (G : Hp) (k wt : Nat) : List V → List TD → List PyData → Prop
  | nil : PlL K G k wt [] [] []
  | cons {x : V} {t : TD} {d : PyData} {xs : List V} {ts : List TD} {ds : List PyData} : VT K G x t → Dp K G x d → Dd K G x d → Sh k wt d → PlL K G k wt xs ts ds → PlL K G k wt (x :: xs) (t :: ts) (d :: ds)
theorem PlL.len {K : PySem.W.Frag} {G : Hp} {k wt : Nat} {xs : List V} {ts : List TD} {ds : List PyData} (h : PlL K G k wt xs ts ds) : ts.length = xs.length ∧ ds.length = xs.length := by
  induction h with
  | nil => exact ⟨rfl, rfl⟩
  | cons _ _ _ _ _ ih => exact ⟨congrArg (· + 1) ih.1, congrArg (· + 1) ih.2⟩
/-- the same for lists of data -/
def SzA (k wt : Nat) (ds : List PyData) : Prop := PyData.depthAll ds ≤ k ∧ PyData.showableAll ds = true ∧ PyData.leavesShortAll 200 ds = true ∧ PyData.weightAll ds ≤ wt
theorem SzA.cons {k wt wt' : Nat} {d : PyData} {ds : List PyData} (h : Szd k wt d) (t : SzA k wt' ds) : SzA k (wt + 1 + wt') (d :: ds) := by
  obtain ⟨a1, a2, a3, a4⟩ := h
  obtain ⟨b1, b2, b3, b4⟩ := t
  refine ⟨?_, ?_, ?_, ?_⟩
  · show max (PyData.depth d) (PyData.depthAll ds) ≤ k
    omega
  · show (PyData.showable d && PyData.showableAll ds) = true
    rw [a2, b2]
    rfl
  · show (PyData.leavesShort 200 d && PyData.leavesShortAll 200 ds) = true
    rw [a3, b3]
    rfl
  · show PyData.weight d + 1 + PyData.weightAll ds ≤ _
    omega
theorem SzA.nil {k : Nat} : SzA k 0 [] := ⟨Nat.zero_le _, rfl, rfl, Nat.le_refl _⟩
theorem sh_szd {k wt : Nat} {d : PyData} (h : Sh k wt d) : Szd k wt d := ⟨h.dep, h.shw, h.lvs, h.wgt⟩
theorem SzA.tup {k wt : Nat} {ds : List PyData} (h : SzA k wt ds) : Szd (k + 1) wt (.tuple ds) := ⟨Nat.add_le_add_right h.1 1, h.2.1, h.2.2.1, h.2.2.2⟩
theorem Szd.mono {k wt k' wt' : Nat} {d : PyData} (h : Szd k wt d) (a : k ≤ k') (b : wt ≤ wt') : Szd k' wt' d := ⟨Nat.le_trans h.1 a, h.2.1, h.2.2.1, Nat.le_trans h.2.2.2 b⟩
theorem pl_vts {K : PySem.W.Frag} {G : Hp} {k wt : Nat} {xs ys : List V} {ts us : List TD} {ds : List PyData} (h : PlL K G k wt xs ts ds) (r : VTs K G ys us) : VTs K G (xs ++ ys) (ts ++ us) := by
  induction h with
  | nil => exact r
  | cons a _ _ _ _ ih => exact .cons a ih
theorem pl_dps {K : PySem.W.Frag} {G : Hp} {k wt : Nat} {xs ys : List V} {ts : List TD} {ds es : List PyData} (h : PlL K G k wt xs ts ds) (r : DpAll K G ys es) : DpAll K G (xs ++ ys) (ds ++ es) := by
  induction h with
  | nil => exact r
  | cons _ a _ _ _ ih => exact .cons a ih
theorem pl_dds {K : PySem.W.Frag} {G : Hp} {k wt : Nat} {xs ys : List V} {ts : List TD} {ds es : List PyData} (h : PlL K G k wt xs ts ds) (r : DdAll K G ys es) : DdAll K G (xs ++ ys) (ds ++ es) := by
  induction h with
  | nil => exact r
  | cons _ _ a _ _ ih => exact .cons a ih
theorem pl_sh {K : PySem.W.Frag} {G : Hp} {k wt w2 : Nat} {xs : List V} {ts : List TD} {ds es : List PyData} (h : PlL K G k wt xs ts ds) (r : ShAll k w2 es) : ShAll k ((wt + 1) * xs.length + w2) (ds ++ es) := by
  induction h with
  | nil => exact r.mono (Nat.le_refl _) (by simp)
  | cons _ _ _ s _ ih =>
    refine (ShAll.cons s ih).mono (Nat.le_refl _) ?_
    rw [List.length_cons, Nat.mul_succ]
    omega
theorem pl_sz {K : PySem.W.Frag} {G : Hp} {k wt w2 : Nat} {xs : List V} {ts : List TD} {ds es : List PyData} (h : PlL K G k wt xs ts ds) (r : SzA k w2 es) : SzA k ((wt + 1) * xs.length + w2) (ds ++ es) := by
  induction h with
  | nil => exact ⟨r.1, r.2.1, r.2.2.1, Nat.le_trans r.2.2.2 (by simp)⟩
  | cons _ _ _ s _ ih =>
    have := SzA.cons (sh_szd s) ih
    refine ⟨this.1, this.2.1, this.2.2.1, Nat.le_trans this.2.2.2 ?_⟩
    rw [List.length_cons, Nat.mul_succ]
    omega
theorem val_mix {K : PySem.W.Frag} {G : Hp} {k wt w2 : Nat} {pre post : List V} {t1 t2 : List TD} {d1 d2 : List PyData} {v : V} {t : Addr} (h1 : PlL K G k wt pre t1 d1) (h2 : PlL K G k wt post t2 d2) (hv : Val K G k w2 v) (hl : pre.length + post.length ≤ 900) (ht : SqT K G t (pre ++ [v] ++ post)) : Val K G (k + 1) ((wt + 1) * (pre.length + post.length) + w2 + 1) (.ref t) := by
  obtain ⟨⟨tv, a1, _⟩, d, a2⟩ := hv
  rw [List.append_assoc] at ht
  have hn := pl_vts h2 (ys := []) (us := []) .nil
  rw [List.append_nil, List.append_nil] at hn
  have vts := pl_vts h1 (ys := [v] ++ post) (.cons a1 hn)
  refine ⟨⟨_, .tup ht vts, fun ts e => ?_⟩, ?_⟩
  · cases e
    rw [List.length_append, List.length_cons, h1.len.1, h2.len.1]
    omega
  have e0 : (wt + 1) * pre.length + (w2 + 1 + ((wt + 1) * post.length + 0)) ≤ (wt + 1) * (pre.length + post.length) + w2 + 1 := by
    rw [Nat.mul_add]
    omega
  rcases a2 with ⟨b1, b2⟩ | ⟨av, rfl, b1, b2⟩
  · have dn := pl_dps h2 (ys := []) (es := []) .nil
    rw [List.append_nil, List.append_nil] at dn
    have sn := pl_sh h2 (ShAll.nil.mono (Nat.zero_le k) (Nat.le_refl 0))
    rw [List.append_nil] at sn
    exact ⟨_, .inl ⟨.tup ht (pl_dps h1 (.cons b1 dn)), (Sh.tup (pl_sh h1 (ShAll.cons b2 sn))).mono (Nat.le_refl _) e0⟩⟩
  · have dn := pl_dds h2 (ys := []) (es := []) .nil
    rw [List.append_nil, List.append_nil] at dn
    have sn := pl_sz h2 (SzA.nil (k := k))
    rw [List.append_nil] at sn
    exact ⟨_, .inr ⟨t, rfl, .tup ht (pl_dds h1 (.cons b1 dn)), (SzA.tup (pl_sz h1 (SzA.cons b2 sn))).mono (Nat.le_refl _) e0⟩⟩
theorem pl_ints {K : PySem.W.Frag} {G : Hp} : ∀ {r : List Nat}, (∀ x ∈ r, x < 60) → ∃ ts ds, PlL K G 2 6 (setV r) ts ds
  | [], _ => ⟨[], [], .nil⟩
  | x :: r, h => by
    obtain ⟨ts, ds, p⟩ := pl_ints (K := K) (G := G) (r := r) fun y hy => h y (List.mem_cons_of_mem _ hy)
    have hx := h x List.mem_cons_self
    exact ⟨_, _, .cons (.int x) (.int x) (.int x) ((Sh.int (b := 6) (by decide) (by decide) (by omega)).mono (by decide) (Nat.le_refl _)) p⟩
theorem dd_ints {K : PySem.W.Frag} {G : Hp} : ∀ r : List Nat, DdAll K G (setV r) (natD r)
  | [] => .nil
  | x :: r => .cons (.int _) (dd_ints r)
theorem pl_rows {K : PySem.W.Frag} {G : Hp} {ts : List V} {rows : List (List Nat)} (R : RowsL K G ts rows) (h : ∀ r ∈ rows, r.length ≤ 60 ∧ ∀ x ∈ r, x < 60) : ∃ us ds, PlL K G 3 434 ts us ds := by
  unfold RowsL at R
  induction R with
  | nil => exact ⟨[], [], .nil⟩
  | @cons v r vs rs a _ ih =>
    obtain ⟨us, ds, p⟩ := ih fun x hx => h x (List.mem_cons_of_mem _ hx)
    obtain ⟨h1, h2⟩ := h r List.mem_cons_self
    obtain ⟨t, rfl, ht⟩ := a
    exact ⟨_, _, .cons (.tup ht (vts_setV r)) (.tup ht (dp_set r)) (.tup ht (dd_ints r)) ((Sh.tup (sh_rowV (by omega) h2)).mono (by decide) (Nat.le_refl _)) p⟩
theorem val_pl {K : PySem.W.Frag} {G : Hp} {k wt : Nat} {xs : List V} {t1 : List TD} {d1 : List PyData} {t : Addr} (h : PlL K G k wt xs t1 d1) (hl : xs.length ≤ 900) (ht : SqT K G t xs) : Val K G (k + 1) ((wt + 1) * xs.length) (.ref t) := by
  have hn := pl_vts h (ys := []) (us := []) .nil
  have dn := pl_dps h (ys := []) (es := []) .nil
  have sn := pl_sh h (ShAll.nil.mono (Nat.zero_le k) (Nat.le_refl 0))
  rw [List.append_nil, List.append_nil] at hn dn
  rw [List.append_nil] at sn
  exact ⟨⟨_, .tup ht hn, fun ts e => by cases e; rw [h.len.1]; omega⟩, _, .inl ⟨.tup ht dn, Sh.tup sn⟩⟩
theorem val_pll {K : PySem.W.Frag} {G : Hp} {k wt : Nat} {xs : List V} {t1 : List TD} {d1 : List PyData} {t : Addr} (h : PlL K G k wt xs t1 d1) (ht : G t = some (.lst xs)) : Val K G (k + 1) ((wt + 1) * xs.length) (.ref t) := by
  have dn := pl_dps h (ys := []) (es := []) .nil
  have sn := pl_sh h (ShAll.nil.mono (Nat.zero_le k) (Nat.le_refl 0))
  rw [List.append_nil, List.append_nil] at dn
  rw [List.append_nil] at sn
  exact ⟨⟨.oth "list", .oth (.base (.lst ht)) (by decide) (by decide) (by decide), fun ts e => by cases e⟩, _, .inl ⟨.lst (SqL.of ht) dn, Sh.lst sn⟩⟩
theorem pl_one {K : PySem.W.Frag} {G : Hp} {k wt : Nat} {xs : List V} {t1 : List TD} {d1 : List PyData} {t : Addr} (h : PlL K G k wt xs t1 d1) (ht : SqT K G t xs) : ∃ ts ds, PlL K G (k + 1) ((wt + 1) * xs.length) [.ref t] ts ds := by
  have hn := pl_vts h (ys := []) (us := []) .nil
  have dn := pl_dps h (ys := []) (es := []) .nil
  have ddn := pl_dds h (ys := []) (es := []) .nil
  have sn := pl_sh h (ShAll.nil.mono (Nat.zero_le k) (Nat.le_refl 0))
  rw [List.append_nil, List.append_nil] at hn dn ddn
  rw [List.append_nil] at sn
  exact ⟨_, _, .cons (.tup ht hn) (.tup ht dn) (.tup ht ddn) (Sh.tup sn) .nil⟩
theorem sh_empty13 : Sh 0 100 (.str "") := ⟨by decide +kernel, by decide +kernel, by decide +kernel, by decide +kernel, by decide +kernel⟩
theorem val_empty {K : PySem.W.Frag} {G : Hp} : Val K G 2 1000 (.str "") := ⟨⟨.oth "str", .oth (.base (.str "")) (by decide) (by decide) (by decide), fun ts e => by cases e⟩, .str "", .inl ⟨.str "", sh_empty13.mono (by decide) (by decide)⟩⟩
/-! ### a table with one change -/
theorem step_new {p t : Addr} {G H : Hp} {o : HO} (s : Same G H) (gp : G p = none) (hp : H p ≠ none) (ht : H t = none) : ∃ G', Grow p G H G' (upd H t o) ∧ G' t = some o := by
  obtain ⟨a, b⟩ := grow_mk s gp hp (same_new (o := o) ht) (But.refl p _)
  exact ⟨_, a, b t o upd_same ht⟩
theorem grow_but {p : Addr} {G H H' : Hp} (s : Same G H) (gp : G p = none) (b : But p H H') : Grow p G H G H' := ⟨Same.refl _, fun x o e => b x o (fun z => by rw [z, gp] at e; cases e) (s x o e), gp, fun x g _ => g, b⟩
theorem cat_g {K : PySem.W.Frag} {p0 a b : Addr} {G H : Hp} {xs ys : List V} {Q : VK} (s : Same G H) (gp : G p0 = none) (hp : H p0 ≠ none) (ha : SqT K G a xs) (hb : SqT K G b ys) (l : xs.length + ys.length ≤ sizeLine) (q : ∀ t G' H', Grow p0 G H G' H' → Same H H' → SqT K G' t (xs ++ ys) → Q (.ref t) H') : rCatA K (.ref a) (.ref b) H Q := by
  refine ⟨a, b, xs, ys, rfl, rfl, Same.seqT s ha, Same.seqT s hb, l, fun e => ?_, fun _ e => ?_, fun _ _ t nt => ?_⟩
  · subst e
    exact q b G H (Grow.refl s gp) (Same.refl _) hb
  · subst e
    exact q a G H (Grow.refl s gp) (Same.refl _) (by rw [List.append_nil]; exact ha)
  · obtain ⟨G', g, e⟩ := step_new (o := .tup (xs ++ ys)) s gp hp nt
    exact q t G' _ g (same_new nt) (SqT.of e)
theorem sl_g {K : PySem.W.Frag} {p0 a : Addr} {G H : Hp} {xs : List V} {lo hi : Option Int} {Q : VK} (s : Same G H) (gp : G p0 = none) (hp : H p0 ≠ none) (ha : SqT K G a xs) (q : ∀ t G' H', Grow p0 G H G' H' → Same H H' → SqT K G' t (cutV xs lo hi) → Q (.ref t) H') : rSlA K (.ref a) lo hi H Q := by
  refine ⟨a, xs, rfl, Same.seqT s ha, fun w => ?_, fun _ t nt => ?_⟩
  · exact q a G H (Grow.refl s gp) (Same.refl _) (by rw [cut_whole w]; exact ha)
  · obtain ⟨G', g, e⟩ := step_new (o := .tup (cutV xs lo hi)) s gp hp nt
    exact q t G' _ g (same_new nt) (SqT.of e)
theorem Val.mono13 {K : PySem.W.Frag} {G : Hp} {k wt k' wt' : Nat} {v : V} (h : Val K G k wt v) (a : k ≤ k') (b : wt ≤ wt') : Val K G k' wt' v := by
  obtain ⟨h1, d, h | ⟨x, e, h2, h3⟩⟩ := h
  · exact ⟨h1, d, .inl ⟨h.1, h.2.mono a b⟩⟩
  · exact ⟨h1, d, .inr ⟨x, e, h2, h3.mono a b⟩⟩
theorem RowsL.take13 {K : PySem.W.Frag} {H : Hp} {ts : List V} {rows : List (List Nat)} (h : RowsL K H ts rows) (k : Nat) : RowsL K H (ts.take k) (rows.take k) := by
  unfold RowsL at *
  induction h generalizing k with
  | nil => rw [List.take_nil, List.take_nil]; exact .nil
  | cons a b ih =>
    cases k with
    | zero => exact .nil
    | succ k => exact .cons a (ih k)
theorem RowsL.drop13 {K : PySem.W.Frag} {H : Hp} {ts : List V} {rows : List (List Nat)} (h : RowsL K H ts rows) (k : Nat) : RowsL K H (ts.drop k) (rows.drop k) := by
  unfold RowsL at *
  induction h generalizing k with
  | nil => rw [List.drop_nil, List.drop_nil]; exact .nil
  | cons a b ih =>
    cases k with
    | zero => exact .cons a b
    | succ k => exact ih k
/-- lists of servers, five at most -/
def Rows13 (rows : List (List Nat)) : Prop := 1 ≤ rows.length ∧ rows.length ≤ 6 ∧ ∀ r ∈ rows, 1 ≤ r.length ∧ r.length ≤ 60 ∧ ∀ x ∈ r, x < 60
def spBent13 (K : PySem.W.Frag) : Sp := fun vs H Q _ => ∃ (p a : Addr) (m n : Nat) (ts : List V) (rows : List (List Nat)) (G : Hp), vs = [.ref p, .int n, .ref a] ∧ PotAt H p m ∧ m ≤ 90000 ∧ 2 ≤ n ∧ n ≤ 60 ∧ Same G H ∧ G p = none ∧ SqT K G a ts ∧ RowsL K G ts rows ∧ Rows13 rows ∧
  ∀ H' G' v, Grow p G H G' H' → PotAt H' p (m + 5) → Val K G' 5 20000 v → Q v H'
section
variable {P : Program} {w : World} {K : PySem.W.Frag} {mg : Str → Option Value} {base : Heap}
theorem ok_bent13 (T : Txt K mg) {j : Nat} : FnOk P w K mg base CX0 (j + 4) T.fBent13 T.fdBent13 ["_law_pot_here", "_law_n", "_law_rows"] (spBent13 K) := by
  refine T.FBent13.ok scBent13 (fun vs H Q E h => ?_) (fun cdv A outer s H vs Q E hr h => ?_)
  · obtain ⟨p, a, m, n, ts, rows, G, rfl, _⟩ := h
    rfl
  · obtain ⟨p, a, m, n, ts, rows, G, rfl, hP, hm, hn2, hn, sG, gp, hA, hR, R3, q⟩ := h
    refine ⟨_, pss_cons (ps_set (i := 3) scBent13.nd rfl (.inl rfl) (pe_call (ok_take T) hr (by rfl) T.gTake T.FTake.kp T.bTake .nil pass0 (pa_cons (pv 0) (pa_cons (pe_callB (call_lenK K) (by rfl) T.n_len PySem.boot_len (pa_cons (pv 2) pa_nil)) pa_nil)))) (pss_cons (ps_set (i := 4) scBent13.nd rfl (.inl rfl) (pe_call (ok_take T) hr (by rfl) T.gTake T.FTake.kp T.bTake .nil pass0 (pa_cons (pv 0) (pa_cons (pe_callB (call_lenK K) (by rfl) T.n_len PySem.boot_len (pa_cons (pe_ix (ix_tupK K) (pv 2) (pv 3) (fun _ _ => rfl)) pa_nil)) pa_nil)))) (pss_cons (ps_if (pt_cmpR op_gt (pe_call (ok_take T) hr (by rfl) T.gTake T.FTake.kp T.bTake .nil pass0 (pa_cons (pv 0) (pa_cons pe_int pa_nil))) pe_int (nomark _)) (pss_cons (ps_set (i := 5) scBent13.nd rfl (.inl rfl) (pe_ix (ix_tupK K) (pv 2) (pv 3) (fun _ _ => rfl))) (pss_cons (ps_set (i := 6) scBent13.nd rfl (.inl rfl) (pe_tup (pa_cons (pe_call (ok_odd13 T) hr (by rfl) T.gOdd13 T.FOdd13.kp T.bOdd13 .nil pass0 (pa_cons (pv 0) (pa_cons (pv 1) (pa_cons (pe_ix (ix_tupK K) (pv 5) (pv 4) (fun _ _ => rfl)) pa_nil)))) pa_nil))) (pss_one (ps_ret (pe_op op_catA (pe_op op_catA (pe_slice sl_tupA (pv 2) po_none (po_some (pv 3))) (pe_tup (pa_cons (pe_op op_catA (pe_op op_catA (pe_slice sl_tupA (pv 5) po_none (po_some (pv 4))) (pv 6)) (pe_slice sl_tupA (pv 5) (po_some (pe_op op_add (pv 4) pe_int)) po_none)) pa_nil))) (pe_slice sl_tupA (pv 2) (po_some (pe_op op_add (pv 3) pe_int)) po_none)))))) pss_nil) (pss_one (ps_ret (pe_call (ok_of T) hr (by rfl) T.gOf T.FOf.kp T.bOf .nil pass0 (pa_cons (pv 0) (pa_cons (pe_lst (pa_cons (pe_op op_catA (pe_op op_catA (pe_slice sl_tupA (pv 2) po_none (po_some (pv 3))) (pe_tup (pa_cons (pe_call (ok_odd13 T) hr (by rfl) T.gOdd13 T.FOdd13.kp T.bOdd13 .nil pass0 (pa_cons (pv 0) (pa_cons (pv 1) (pa_cons (pe_ix (ix_tupK K) (pv 2) (pv 3) (fun _ _ => rfl)) pa_nil)))) pa_nil))) (pe_slice sl_tupA (pv 2) (po_some (pe_op op_add (pv 3) pe_int)) po_none)) (pa_cons (pe_callTy (call_listK K) (by rfl) T.n_list (by decide +kernel) (pa_cons (pv 2) pa_nil)) (pa_cons (pe_slice sl_tupA (pv 2) po_none (po_some (pv 3))) (pa_cons (pe_tup (pa_cons (pv 2) pa_nil)) pa_nil))))) pa_nil))))))), ?_⟩
    have hp : ∀ {H' : Hp} {m' : Nat}, PotAt H' p m' → H' p ≠ none := fun h e => by
      obtain ⟨a, b, c, h, _⟩ := h
      rw [e] at h
      cases h
    have tl := hR.len
    obtain ⟨R1, R2, R4⟩ := R3
    refine ⟨.ref p, rfl, .ref a, rfl, a, ts, rfl, .inr (Same.seqT sG hA), p, _, (ts.length : Int), rfl, hP, by omega, by omega, ?_, fun r1 H1 r10 r1l P1 B1 => ?_⟩
    · rw [tl]
      exact Int.lt_of_le_of_lt (Int.ofNat_le.mpr R2) (by decide +kernel)
    obtain ⟨at1, rfl⟩ := Int.eq_ofNat_of_zero_le r10
    have hat : at1 < rows.length := by rw [tl] at r1l; omega
    dsimp only [gName]
    obtain ⟨r, hr, u, hu, hU⟩ : ∃ r, rows[at1]? = some r ∧ ∃ u, ts[at1]? = some (V.ref u) ∧ SqT K G u (setV r) := by
      have ha : at1 < ts.length := by omega
      obtain ⟨r, hr, u, e, hU⟩ := hR.at (List.getElem?_eq_getElem ha)
      exact ⟨r, hr, u, by rw [List.getElem?_eq_getElem ha, e], hU⟩
    obtain ⟨q1, q2, q3⟩ := R4 r (List.mem_of_getElem? hr)
    have g1 := grow_but sG gp B1
    have s1 := g1.2.1
    refine ⟨.ref p, rfl, .ref a, rfl, _, rfl, a, ts, _, _, rfl, rfl, Same.seqT s1 hA, atI_nat hu, u, setV r, rfl, .inr (Same.seqT s1 hU), p, _, ((setV r).length : Int), rfl, P1, by omega, by rw [setV_len]; omega, ?_, fun r2 H2 r20 r2l P2 B2 => ?_⟩
    · rw [setV_len]
      exact Int.lt_of_le_of_lt (Int.ofNat_le.mpr q2) (by decide +kernel)
    obtain ⟨sp, rfl⟩ := Int.eq_ofNat_of_zero_le r20
    rw [setV_len] at r2l
    have hsp : sp < r.length := by omega
    dsimp only [gName]
    refine ⟨.ref p, rfl, p, _, 3, rfl, P2, by omega, by decide, by decide +kernel, fun r3 H3 r30 r3l P3 B3 => ⟨_, _, rfl, rfl, _, rfl, ite2 (fun c => ?_) (fun c => ?_)⟩⟩
    · have g3 := g1.trans ((grow_but s1 gp B2).trans (grow_but (grow_but s1 gp B2).2.1 gp B3))
      have s3 := g3.2.1
      refine ⟨.ref a, rfl, _, rfl, a, ts, _, _, rfl, rfl, Same.seqT s3 hA, atI_nat hu, ?_⟩
      dsimp only [gName]
      have hx : r[sp]? = some r[sp] := List.getElem?_eq_getElem hsp
      have hx6 : r[sp] < 60 := q3 _ (List.getElem_mem hsp)
      refine ⟨.ref p, rfl, _, rfl, .ref u, rfl, _, rfl, u, setV r, _, _, rfl, rfl, Same.seqT s3 hU, atI_nat (setV_at hx), ?_⟩
      refine ⟨p, _, n, _, G, rfl, P3, by omega, hn2, hn, s3, gp, .inl ⟨_, rfl, hx6⟩, fun H4 G4 v g4 P4 v4 => ?_⟩
      have T4 := g3.trans g4
      refine ⟨by show 1 ≤ sizeLine; decide, fun t5 n5 => ?_⟩
      obtain ⟨G5, g5, e5⟩ := step_new (o := .tup [v]) g4.2.1 g4.2.2.1 (hp P4) n5
      have T5 := T4.trans g5
      have P5 := P4.same (same_new (o := .tup [v]) n5)
      have v5 := v4.same g5.1
      show gName 6 (.ref t5) _ (upd H4 t5 (.tup [v])) _
      generalize upd H4 t5 (.tup [v]) = H5 at g5 T5 P5 ⊢
      dsimp only [gName]
      have ca : cutV ts none (some (at1 : Int)) = ts.take at1 := by
        unfold cutV
        rw [HT.sIx_none, HT.sIx_nat, Nat.min_eq_left (by omega)]
        rfl
      have cb : cutV ts (some ((at1 : Int) + 1)) none = ts.drop (at1 + 1) := by
        unfold cutV
        rw [HT.sIx_none, show (at1 : Int) + 1 = ((at1 + 1 : Nat) : Int) from rfl, HT.sIx_nat, Nat.min_eq_left (by omega), List.take_of_length_le (by rw [List.length_drop]; exact Nat.le_refl _)]
      have cc : cutV (setV r) none (some (sp : Int)) = setV (r.take sp) := by
        unfold cutV setV
        rw [HT.sIx_none, HT.sIx_nat, List.length_map, Nat.min_eq_left (by omega), List.map_take]
        rfl
      have cd : cutV (setV r) (some ((sp : Int) + 1)) none = setV (r.drop (sp + 1)) := by
        unfold cutV setV
        rw [HT.sIx_none, show (sp : Int) + 1 = ((sp + 1 : Nat) : Int) from rfl, HT.sIx_nat, List.length_map, Nat.min_eq_left (by omega), List.map_drop, List.take_of_length_le (by rw [List.length_drop, List.length_map]; exact Nat.le_refl _)]
      refine ⟨.ref a, rfl, _, rfl, _, rfl, sl_g T5.2.1 T5.2.2.1 (hp P5) (Same.seqT T5.1 hA) fun t6 G6 H6 g6 k6 h6 => ?_⟩
      rw [ca] at h6
      have T6 := T5.trans g6
      have P6 := P5.same k6
      refine ⟨.ref u, rfl, _, rfl, _, rfl, sl_g T6.2.1 T6.2.2.1 (hp P6) (Same.seqT T6.1 hU) fun t7 G7 H7 g7 k7 h7 => ?_⟩
      rw [cc] at h7
      have T7 := T6.trans g7
      have P7 := P6.same k7
      have h5 : SqT K G7 t5 [v] := Same.seqT (g6.1.trans g7.1) (SqT.of e5)
      have lr1 : (setV (r.take sp)).length = sp := by rw [setV_len, List.length_take]; omega
      have lr2 : (setV (r.drop (sp + 1))).length = r.length - (sp + 1) := by rw [setV_len, List.length_drop]
      have lt1 : (ts.take at1).length = at1 := by rw [List.length_take]; omega
      have lt2 : (ts.drop (at1 + 1)).length = ts.length - (at1 + 1) := by rw [List.length_drop]
      have big : ∀ {x : Nat}, x ≤ 1000 → x ≤ sizeLine := fun h => Nat.le_trans h (by decide)
      refine ⟨.ref t5, rfl, cat_g T7.2.1 T7.2.2.1 (hp P7) h7 h5 (big (by rw [lr1]; show sp + 1 ≤ 1000; omega)) fun t8 G8 H8 g8 k8 h8 => ?_⟩
      have T8 := T7.trans g8
      have P8 := P7.same k8
      refine ⟨.ref u, rfl, _, rfl, _, _, rfl, rfl, _, rfl, ?_⟩
      dsimp only [tNoPart]
      refine sl_g T8.2.1 T8.2.2.1 (hp P8) (Same.seqT T8.1 hU) fun t9 G9 H9 g9 k9 h9 => ?_
      rw [cd] at h9
      have T9 := T8.trans g9
      have P9 := P8.same k9
      refine cat_g T9.2.1 T9.2.2.1 (hp P9) (Same.seqT g9.1 h8) h9 (big (by rw [List.length_append, lr1, lr2]; show sp + 1 + _ ≤ 1000; omega)) fun t10 G10 H10 g10 k10 h10 => ?_
      have T10 := T9.trans g10
      have P10 := P9.same k10
      refine ⟨by show 1 ≤ sizeLine; decide, fun t11 n11 => ?_⟩
      obtain ⟨G11, g11, e11⟩ := step_new (o := .tup [V.ref t10]) T10.2.1 T10.2.2.1 (hp P10) n11
      have T11 := T10.trans g11
      have P11 := P10.same (same_new (o := .tup [V.ref t10]) n11)
      have G7b := (g8.1.trans g9.1).trans (g10.1.trans g11.1)
      refine cat_g T11.2.1 T11.2.2.1 (hp P11) (Same.seqT (g7.1.trans G7b) h6) (SqT.of e11) (big (by rw [lt1]; show at1 + 1 ≤ 1000; omega)) fun t12 G12 H12 g12 k12 h12 => ?_
      have T12 := T11.trans g12
      have P12 := P11.same k12
      refine ⟨.ref a, rfl, _, rfl, _, _, rfl, rfl, _, rfl, ?_⟩
      dsimp only [tNoPart]
      refine sl_g T12.2.1 T12.2.2.1 (hp P12) (Same.seqT T12.1 hA) fun t13 G13 H13 g13 k13 h13 => ?_
      rw [cb] at h13
      have T13 := T12.trans g13
      have P13 := P12.same k13
      refine cat_g T13.2.1 T13.2.2.1 (hp P13) (Same.seqT g13.1 h12) h13 (big (by rw [List.length_append, lt1, lt2]; show at1 + 1 + _ ≤ 1000; omega)) fun t14 G14 H14 g14 k14 h14 => ?_
      have T14 := T13.trans g14
      have P14 := P13.same k14
      have e514 : Same G5 G14 := ((g6.1.trans g7.1).trans G7b).trans ((g12.1.trans g13.1).trans g14.1)
      have e1014 : Same G10 G14 := g11.1.trans ((g12.1.trans g13.1).trans g14.1)
      obtain ⟨ta, da, pa⟩ := pl_ints (K := K) (G := G14) (r := r.take sp) fun x hx => q3 x (List.mem_of_mem_take hx)
      obtain ⟨tb, db, pb⟩ := pl_ints (K := K) (G := G14) (r := r.drop (sp + 1)) fun x hx => q3 x (List.mem_of_mem_drop hx)
      have vrow := val_mix pa pb (v5.same e514) (by rw [lr1, lr2]; omega) (Same.seqT e1014 h10)
      obtain ⟨tc, dc, pc⟩ := pl_rows (K := K) (G := G14) (RowsL.take13 (PySem.Paired.mono (fun v ms ⟨t, e, z⟩ => ⟨t, e, Same.seqT T14.1 z⟩) hR) at1) fun x hx => (R4 x (List.mem_of_mem_take hx)).2
      obtain ⟨td, dd, pd⟩ := pl_rows (K := K) (G := G14) (RowsL.drop13 (PySem.Paired.mono (fun v ms ⟨t, e, z⟩ => ⟨t, e, Same.seqT T14.1 z⟩) hR) (at1 + 1)) fun x hx => (R4 x (List.mem_of_mem_drop hx)).2
      have vall := val_mix pc pd vrow (by rw [lt1, lt2]; omega) h14
      rw [lr1, lr2, lt1, lt2] at vall
      refine q _ _ _ T14 (P14.mono (by omega)) (vall.mono13 (by decide) ?_)
      have w1 : (6 + 1) * (sp + (r.length - (sp + 1))) ≤ 7 * 60 := Nat.mul_le_mul_left 7 (by omega)
      have w2 : (434 + 1) * (at1 + (ts.length - (at1 + 1))) ≤ 435 * 6 := Nat.mul_le_mul_left 435 (by omega)
      omega
    · have g3 := g1.trans ((grow_but s1 gp B2).trans (grow_but (grow_but s1 gp B2).2.1 gp B3))
      have ca : cutV ts none (some (at1 : Int)) = ts.take at1 := by
        unfold cutV
        rw [HT.sIx_none, HT.sIx_nat, Nat.min_eq_left (by omega)]
        rfl
      have cb : cutV ts (some ((at1 : Int) + 1)) none = ts.drop (at1 + 1) := by
        unfold cutV
        rw [HT.sIx_none, show (at1 : Int) + 1 = ((at1 + 1 : Nat) : Int) from rfl, HT.sIx_nat, Nat.min_eq_left (by omega), List.take_of_length_le (by rw [List.length_drop]; exact Nat.le_refl _)]
      have lt1 : (ts.take at1).length = at1 := by rw [List.length_take]; omega
      have lt2 : (ts.drop (at1 + 1)).length = ts.length - (at1 + 1) := by rw [List.length_drop]
      have big : ∀ {x : Nat}, x ≤ 1000 → x ≤ sizeLine := fun h => Nat.le_trans h (by decide)
      dsimp only [tNext]
      refine ⟨.ref p, rfl, .ref a, rfl, _, rfl, _, rfl, sl_g g3.2.1 g3.2.2.1 (hp P3) (Same.seqT g3.1 hA) fun t6 G6 H6 g6 k6 h6 => ?_⟩
      rw [ca] at h6
      have T6 := g3.trans g6
      have P6 := P3.same k6
      refine ⟨.ref p, rfl, _, rfl, .ref a, rfl, _, rfl, a, ts, _, _, rfl, rfl, Same.seqT (T6.1.trans T6.2.1) hA, atI_nat hu, ?_⟩
      refine ⟨p, _, n, _, G6, rfl, P6, by omega, hn2, hn, T6.2.1, T6.2.2.1, .inr ⟨u, r, rfl, Same.seqT T6.1 hU, q1, q2, q3⟩, fun H7 G7 v g7 P7 v7 => ?_⟩
      have T7 := T6.trans g7
      refine ⟨by show 1 ≤ sizeLine; decide, fun t8 n8 => ?_⟩
      obtain ⟨G8, g8, e8⟩ := step_new (o := .tup [v]) T7.2.1 T7.2.2.1 (hp P7) n8
      have T8 := T7.trans g8
      have P8 := P7.same (same_new (o := .tup [v]) n8)
      refine cat_g T8.2.1 T8.2.2.1 (hp P8) (Same.seqT (g7.1.trans g8.1) h6) (SqT.of e8) (big (by rw [lt1]; show at1 + 1 ≤ 1000; omega)) fun t9 G9 H9 g9 k9 h9 => ?_
      have T9 := T8.trans g9
      have P9 := P8.same k9
      refine ⟨.ref a, rfl, _, rfl, _, _, rfl, rfl, _, rfl, ?_⟩
      dsimp only [tNoPart]
      refine sl_g T9.2.1 T9.2.2.1 (hp P9) (Same.seqT T9.1 hA) fun t10 G10 H10 g10 k10 h10 => ?_
      rw [cb] at h10
      have T10 := T9.trans g10
      have P10 := P9.same k10
      refine cat_g T10.2.1 T10.2.2.1 (hp P10) (Same.seqT g10.1 h9) h10 (big (by rw [List.length_append, lt1, lt2]; show at1 + 1 + _ ≤ 1000; omega)) fun t11 G11 H11 g11 k11 h11 => ?_
      have T11 := T10.trans g11
      have P11 := P10.same k11
      refine ⟨.ref a, rfl, a, ts, rfl, .inr (Same.seqT (T11.1.trans T11.2.1) hA), fun t12 n12 => ?_⟩
      obtain ⟨G12, g12, e12⟩ := step_new (o := .lst ts) T11.2.1 T11.2.2.1 (hp P11) n12
      have T12 := T11.trans g12
      have P12 := P11.same (same_new (o := .lst ts) n12)
      refine ⟨.ref a, rfl, _, rfl, _, rfl, sl_g T12.2.1 T12.2.2.1 (hp P12) (Same.seqT T12.1 hA) fun t13 G13 H13 g13 k13 h13 => ?_⟩
      rw [ca] at h13
      have T13 := T12.trans g13
      have P13 := P12.same k13
      refine ⟨.ref a, rfl, by show 1 ≤ sizeLine; decide, fun t14 n14 => ?_⟩
      obtain ⟨G14, g14, e14⟩ := step_new (o := .tup [V.ref a]) T13.2.1 T13.2.2.1 (hp P13) n14
      have T14 := T13.trans g14
      have P14 := P13.same (same_new (o := .tup [V.ref a]) n14)
      refine ⟨by show 4 ≤ sizeLine; decide, fun t15 n15 => ?_⟩
      obtain ⟨G15, g15, e15⟩ := step_new (o := .lst [V.ref t11, V.ref t12, V.ref t13, V.ref t14]) T14.2.1 T14.2.2.1 (hp P14) n15
      have T15 := T14.trans g15
      have P15 := P14.same (same_new (o := .lst [V.ref t11, V.ref t12, V.ref t13, V.ref t14]) n15)
      have f15 : (upd (upd H13 t14 (.tup [V.ref a])) t15 (.lst [V.ref t11, V.ref t12, V.ref t13, V.ref t14])) t15 = some (.lst [V.ref t11, V.ref t12, V.ref t13, V.ref t14]) := upd_same
      have np15 : t15 ≠ p := fun e => hp P14 (by rw [← e]; exact n15)
      refine ⟨p, _, t15, _, rfl, P15, by omega, f15, np15, by show 1 ≤ 4; decide, by show 4 ≤ 1000; decide, fun x H16 hx P16 B16 => ?_⟩
      have T16 := T15.trans (grow_but T15.2.1 T15.2.2.1 B16)
      have m1115 : Same G11 G15 := ((g12.1.trans g13.1).trans g14.1).trans g15.1
      have RG : RowsL K G15 ts rows := PySem.Paired.mono (fun v ms ⟨t, e, z⟩ => ⟨t, e, Same.seqT T16.1 z⟩) hR
      have hr2 : ∀ x ∈ rows, x.length ≤ 60 ∧ ∀ y ∈ x, y < 60 := fun x hx => (R4 x hx).2
      obtain ⟨tc, dc, pc⟩ := pl_rows (K := K) (G := G15) (RG.take13 at1) fun x hx => hr2 x (List.mem_of_mem_take hx)
      obtain ⟨td, dd, pd⟩ := pl_rows (K := K) (G := G15) (RG.drop13 (at1 + 1)) fun x hx => hr2 x (List.mem_of_mem_drop hx)
      obtain ⟨te, de, pe⟩ := pl_rows (K := K) (G := G15) RG hr2
      have w3 : (434 + 1) * ts.length ≤ 435 * 6 := Nat.mul_le_mul_left 435 (by omega)
      have vA := val_pl pe (by omega) (Same.seqT T16.1 hA)
      refine q _ _ _ T16 (P16.mono (by omega)) ?_
      simp only [List.mem_cons, List.not_mem_nil, or_false] at hx
      rcases hx with rfl | rfl | rfl | rfl
      · have vall := val_mix pc pd ((v7.same (((g8.1.trans g9.1).trans (g10.1.trans g11.1)).trans m1115)).mono13 (by decide : 2 ≤ 3) (Nat.le_refl 1000)) (by rw [lt1, lt2]; omega) (Same.seqT m1115 h11)
        rw [lt1, lt2] at vall
        refine vall.mono13 (by decide) ?_
        have w2 : (434 + 1) * (at1 + (ts.length - (at1 + 1))) ≤ 435 * 6 := Nat.mul_le_mul_left 435 (by omega)
        omega
      · exact (val_pll pe (g15.1 _ _ (g14.1 _ _ (g13.1 _ _ e12)))).mono13 (by decide) (by omega)
      · have := val_pl pc (by rw [lt1]; omega) (Same.seqT (g14.1.trans g15.1) h13)
        rw [lt1] at this
        refine this.mono13 (by decide) ?_
        have w2 : (434 + 1) * at1 ≤ 435 * 6 := Nat.mul_le_mul_left 435 (by omega)
        omega
      · have := val_mix (pre := []) (post := []) (wt := 0) .nil .nil vA (by decide) (SqT.of (g15.1 _ _ e14))
        exact this.mono13 (by decide) (by show (0 + 1) * (0 + 0) + _ + 1 ≤ _; omega)
end
/-! ### the law's look at a list, any value -/
theorem lchk_iff {n : Int} : ∀ {ns seen : List Int}, lchk n seen (ns.map TD.int) = true ↔ (∀ x ∈ ns, 0 ≤ x ∧ x < n ∧ x ∉ seen) ∧ ns.Nodup
  | [], seen => ⟨fun _ => ⟨fun x h => absurd h List.not_mem_nil, List.nodup_nil⟩, fun _ => rfl⟩
  | i :: ns, seen => by
    show (decide (0 ≤ i) && (decide (i < n) && (!decide (i ∈ seen) && lchk n (i :: seen) (ns.map TD.int)))) = true ↔ _
    rw [Bool.and_eq_true, Bool.and_eq_true, Bool.and_eq_true, decide_eq_true_iff, decide_eq_true_iff, lchk_iff (ns := ns)]
    constructor
    · rintro ⟨h1, h2, h3, h4, h5⟩
      have h3 : i ∉ seen := by simpa using h3
      refine ⟨fun x hx => ?_, List.nodup_cons.mpr ⟨fun hm => (h4 i hm).2.2 List.mem_cons_self, h5⟩⟩
      rcases List.mem_cons.mp hx with rfl | hx
      · exact ⟨h1, h2, h3⟩
      · obtain ⟨a, b, c⟩ := h4 x hx
        exact ⟨a, b, fun z => c (List.mem_cons_of_mem _ z)⟩
    · rintro ⟨h1, h2⟩
      obtain ⟨a, b, c⟩ := h1 i List.mem_cons_self
      obtain ⟨h3, h4⟩ := List.nodup_cons.mp h2
      refine ⟨a, b, by simpa using c, fun x hx => ?_, h4⟩
      obtain ⟨a', b', c'⟩ := h1 x (List.mem_cons_of_mem _ hx)
      exact ⟨a', b', fun z => by
        rcases List.mem_cons.mp z with rfl | z
        · exact h3 hx
        · exact c' z⟩
def isIntT : TD → Bool
  | .int _ => true
  | _ => false
theorem lchk_other {n : Int} : ∀ {ts : List TD} {seen : List Int}, ts.all isIntT = false → lchk n seen ts = false
  | [], _, h => by cases h
  | .int i :: ts, seen, h => by
    show (decide (0 ≤ i) && (decide (i < n) && (!decide (i ∈ seen) && lchk n (i :: seen) ts))) = false
    rw [lchk_other (ts := ts) h, Bool.and_false, Bool.and_false, Bool.and_false]
  | .tup _ :: _, _, _ => rfl
  | .oth _ :: _, _, _ => rfl
theorem all_ints {K : PySem.W.Frag} {H : Hp} : ∀ {xs : List V} {ts : List TD}, VTs K H xs ts → ts.all isIntT = true → ∃ ns : List Int, xs = ns.map V.int ∧ ts = ns.map TD.int
  | _, _, .nil, _ => ⟨[], rfl, rfl⟩
  | _, _, .cons (.int i) r, h => by
    obtain ⟨ns, e1, e2⟩ := all_ints r h
    exact ⟨i :: ns, by rw [e1]; rfl, by rw [e2]; rfl⟩
  | _, _, .cons (.tup _ _) _, h => by cases h
  | _, _, .cons (.oth _ _ _ _) _, h => by cases h
def spIsL13 (K : PySem.W.Frag) : Sp := fun vs H Q _ => ∃ (n : Int) (d : Nat) (v : V) (t : TD), vs = [.int n, .int d, v] ∧ VT K H v t ∧ 1 ≤ d ∧ d ≤ 60 ∧ ∀ H', Same H H' → Q (.bl (listT n d t)) H'
section
variable {P : Program} {w : World} {K : PySem.W.Frag} {mg : Str → Option Value} {base : Heap}
theorem ok_isl13 (T : Txt K mg) {j : Nat} : FnOk P w K mg base CX0 (j + 2) T.fIsL13 T.fdIsL13 ["_law_n", "_law_depth", "_law_one"] (spIsL13 K) := by
  refine T.FIsL13.ok scIsL13 (fun vs H Q E h => ?_) (fun cdv A outer s H vs Q E hr h => ?_)
  · obtain ⟨n, d, v, t, rfl, _⟩ := h
    rfl
  · obtain ⟨n, d, v, t, rfl, hv, hd1, hd, q⟩ := h
    have hu64 : (A.deeper (envOfC "_law_is_list" (defScope sIsL13) s.heap.objs.size T.fIsL13 cdv)).units + 64 < cLine := by
      have := hr.un
      omega
    refine ⟨_, C8.pss_cut (ps_if (PW.pt (pw_or (pt_not (pt_val (pe_callB (call_isiK1 K) (by rfl) T.n_isinstance (by decide +kernel) (pa_cons (pv 2) (pa_cons (pe_bltn (v := .ty "tuple") (by rfl) T.n_tuple (by decide +kernel) rfl) pa_nil))))) (pw_or1 (pt_cmpR op_ne (pe_callB (call_lenK K) (by rfl) T.n_len PySem.boot_len (pa_cons (pv 2) pa_nil)) (pv 1) (nomark _))))) (pss_one (ps_ret pe_bl)) pss_nil) (pss_cons (ps_if (pt_not (pt_val (pe_callB (cr_allK K) (by rfl) T.n_all (by decide +kernel) (pa_cons (pe_lc (own := [("_law_entry", 3)]) (g := (gName 3)) (tt := tYes) rfl scIsL13.nd (pi_tup (pv 2)) (blkOk_by (own := [("_law_entry", 3)]) (N := NIsL13) (sc := defScope sIsL13) (by decide +kernel)) (fun _ _ _ _ _ => (pg_name (i := 3) scIsL13.nd rfl (.inl rfl))) (fun _ _ _ _ _ => pts_nil) (fun _ _ _ _ _ => (pe_and (pe_callB (call_isiK1 K) (by rfl) T.n_isinstance (by decide +kernel) (pa_cons (pv 3) (pa_cons (pe_bltn (v := .ty "int") (by rfl) T.n_int (by decide +kernel) rfl) pa_nil))) (pe_one (pe_not (pe_callB (call_isiK1 K) (by rfl) T.n_isinstance (by decide +kernel) (pa_cons (pv 3) (pa_cons (pe_bltn (v := .ty "bool") (by rfl) T.n_bool (by decide +kernel) rfl) pa_nil)))))))) pa_nil)))) (pss_one (ps_ret pe_bl)) pss_nil) (pss_one (ps_ret (pe_and (pe_cmpR op_ge (pe_callB (cr_minT K rfl hu64) (by rfl) T.n_min (by decide +kernel) (pa_cons (pv 2) pa_nil)) pe_int (nomark _)) (pe_and (pe_cmpR op_lt (pe_callB (cr_maxT K rfl hu64) (by rfl) T.n_max (by decide +kernel) (pa_cons (pv 2) pa_nil)) (pv 0) (nomark _)) (pe_one (pe_cmpR op_eq (pe_callB (call_lenSet (w := w)) (by rfl) T.n_len PySem.boot_len (pa_cons (pe_callTy (cr_setTn (K := K) (w := w) rfl) (by rfl) T.n_set (by decide +kernel) (pa_cons (pv 2) pa_nil)) pa_nil)) (pv 1) (nomark _)))))))), ?_⟩
    obtain ⟨ty, tm⟩ := hv.ty
    refine ⟨fun σ H1 => σ = [some (.int n), some (.int (d : Int)), some v, none] ∧ H1 = H ∧ ∃ ts, t = .tup ts ∧ ts.length = d, ?_, ?_⟩
    · refine ⟨v, rfl, v, .ty "tuple", _, _, _, rfl, .ty _, ty, kit_tuple tm, _, rfl, ?_⟩
      cases hv with
      | int i => exact iteT (iteT (q H (Same.refl H)))
      | oth h m n1 n2 =>
        rename_i t0
        rw [show (tyT (TD.oth t0) == "tuple") = false from n2]
        exact iteT (iteT (q H (Same.refl H)))
      | tup h r =>
        rename_i a xs ts
        refine iteF ?_
        refine ⟨.ref a, rfl, a, _, rfl, .inr h, _, rfl, rfl, _, rfl, ?_⟩
        rw [r.len]
        refine ite2 (fun z => ?_) (fun z => ⟨rfl, rfl, ts, rfl, ?_⟩)
        · have hne : ts.length ≠ d := fun e => by rw [e] at z; simp at z
          have := q H (Same.refl H)
          rw [show listT n d (.tup ts) = false by
            show (decide (ts.length = d) && _) = false
            rw [decide_eq_false hne, Bool.false_and]] at this
          exact this
        · exact Classical.byContradiction fun e => z (by
            rw [decide_eq_false (fun c => e (by have := V.int.inj c; omega))]
            rfl)
    rintro σ H1 ⟨rfl, rfl, ts, rfl, hlen⟩
    obtain ⟨a, xs, rfl, h, r⟩ : ∃ a xs, v = .ref a ∧ SqT K H1 a xs ∧ VTs K H1 xs ts := by
      cases hv with
      | tup h r => exact ⟨_, _, rfl, h, r⟩
    have xl := r.len
    refine ⟨.ref a, rfl, a, rfl, ⟨_, h⟩, fun D nD => ?_⟩
    refine lc_tup (K := K) (a := a) (xs := xs) (fun z H3 => Same H1 H3 ∧ H3 D = some (.lst (((ts.take z).map isIntT).map V.bl))) ⟨same_new nD, upd_same⟩ (fun _ H3 _ h3 => Same.seqT h3.1 h) ?_ ?_
    · rintro z x H3 hz ⟨s3, hD⟩
      obtain ⟨t, ht, hx⟩ := r.at hz
      have hx3 := VT.same s3 hx
      obtain ⟨ty2, tm2⟩ := hx3.ty
      have small : (((ts.take z).map isIntT).map V.bl).length < sizeLine := by
        rw [List.length_map, List.length_map, List.length_take]
        exact small1000 (by omega)
      have fin : ∀ b, b = isIntT t → (upd H3 D (.lst (((ts.take z).map isIntT).map V.bl ++ [V.bl b]))) D = some (.lst (((ts.take (z + 1)).map isIntT).map V.bl)) := fun b e => by
        rw [upd_same, take_snoc ht, List.map_append, List.map_append, e]
        rfl
      cases hx3 with
      | int i =>
        refine ⟨rfl, _, rfl, .int i, .ty "int", _, _, _, rfl, .ty _, ty2, kit_int tm2, _, rfl, iteT ?_⟩
        refine ⟨_, rfl, .int i, .ty "bool", _, _, _, rfl, .ty _, ty2, kit_bool tm2, _, rfl, _, hD, small, keep_upd s3 nD, fin _ rfl⟩
      | tup h2 r2 =>
        refine ⟨rfl, _, rfl, _, .ty "int", _, _, _, rfl, .ty _, ty2, kit_int tm2, _, rfl, iteF ?_⟩
        refine ⟨_, hD, small, keep_upd s3 nD, fin _ rfl⟩
      | oth h2 m2 n1 n2 =>
        rename_i t2
        have n1 : (t2 == "int") = false := n1
        refine ⟨rfl, _, rfl, _, .ty "int", _, _, _, rfl, .ty _, ty2, kit_int tm2, _, rfl, ?_⟩
        by_cases hb : (t2 == "bool") = true
        · rw [show (tyT (TD.oth t2) == "int" || tyT (TD.oth t2) == "bool") = true by show (t2 == "int" || t2 == "bool") = true; rw [hb, Bool.or_true]]
          refine iteT ?_
          refine ⟨_, rfl, _, .ty "bool", _, _, _, rfl, .ty _, ty2, kit_bool tm2, _, rfl, _, hD, small, keep_upd s3 nD, ?_⟩
          rw [show (tyT (TD.oth t2) == "bool") = true from hb]
          exact fin false rfl
        · have hb : (t2 == "bool") = false := by
            cases h : (t2 == "bool") with
            | true => exact absurd h hb
            | false => rfl
          rw [show (tyT (TD.oth t2) == "int" || tyT (TD.oth t2) == "bool") = false by show (t2 == "int" || t2 == "bool") = false; rw [hb, n1]; rfl]
          refine iteF ?_
          exact ⟨_, hD, small, keep_upd s3 nD, fin false rfl⟩
    rintro H3 ⟨s3, hD⟩
    rw [xl, List.take_length] at hD
    refine ⟨D, _, rfl, SqL.of hD, _, rfl, ?_⟩
    have ea : (ts.map isIntT).all id = ts.all isIntT := by rw [List.all_map]; rfl
    rw [ea]
    cases hb : ts.all isIntT with
    | false =>
      refine iteT ?_
      have := q H3 s3
      rw [show listT n d (.tup ts) = false by
        show (decide (ts.length = d) && lchk n [] ts) = false
        rw [lchk_other hb, Bool.and_false]] at this
      exact this
    | true =>
      refine iteF ?_
      obtain ⟨ns, rfl, rfl⟩ := all_ints r hb
      rw [List.length_map] at hlen
      have h3 := Same.seqT s3 h
      have q2 : ∀ H', Same H3 H' → ∀ b : Bool, (b = true ↔ (∀ x ∈ ns, 0 ≤ x ∧ x < n) ∧ ns.Nodup) → Q (.bl b) H' := fun H' s' b hb => by
        have := q H' (s3.trans s')
        have e : listT n d (.tup (ns.map TD.int)) = b := by
          show (decide ((ns.map TD.int).length = d) && lchk n [] (ns.map TD.int)) = b
          rw [List.length_map, decide_eq_true hlen, Bool.true_and, Bool.eq_iff_iff, lchk_iff, hb]
          exact ⟨fun h => ⟨fun x hx => ⟨(h.1 x hx).1, (h.1 x hx).2.1⟩, h.2⟩, fun h => ⟨fun x hx => ⟨(h.1 x hx).1, (h.1 x hx).2, List.not_mem_nil⟩, h.2⟩⟩
        rw [e] at this
        exact this
      refine ⟨.ref a, rfl, a, ns, rfl, h3, by omega, fun m1 hm1 hmin => ?_⟩
      refine ⟨_, _, rfl, rfl, _, rfl, ite2 (fun c1 => ?_) (fun c1 => ?_)⟩
      · have c1 : 0 ≤ m1 := of_decide_eq_true c1
        refine ⟨.ref a, rfl, a, ns, rfl, h3, by omega, fun m2 hm2 hmax => ?_⟩
        refine ⟨_, rfl, _, _, rfl, rfl, _, rfl, ite2 (fun c2 => ?_) (fun c2 => ?_)⟩
        · have c2 : m2 < n := of_decide_eq_true c2
          refine ⟨.ref a, rfl, a, ns, rfl, h3, by omega, fun p c np hc => ?_⟩
          have s4 := same_new (o := SetO w p (fun j => decide (j ∈ ns)) c) np
          refine ⟨p, _, _, rfl, upd_same, _, rfl, rfl, ?_⟩
          refine q2 _ s4 _ ?_
          rw [decide_eq_true_iff]
          constructor
          · intro e
            have e := V.int.inj e
            refine ⟨fun x hx => ⟨Int.le_trans c1 (hmin x hx), Int.lt_of_le_of_lt (hmax x hx) c2⟩, Classical.byContradiction fun nd => hc.not nd (by omega)⟩
          · rintro ⟨_, nd⟩
            rw [hc.nodup nd, hlen]
        · refine q2 H3 (Same.refl _) false ⟨(fun z => nomatch z), fun z => absurd (z.1 m2 hm2).2 (fun t => c2 (decide_eq_true t))⟩
      · refine q2 H3 (Same.refl _) false ⟨(fun z => nomatch z), fun z => absurd (z.1 m1 hm1).1 (fun t => c1 (decide_eq_true t))⟩
end
/-! ### what is due -/
def spDue13 (K : PySem.W.Frag) : Sp := fun vs H Q _ => ∃ (n : Int) (d : Nat) (v : V) (t : TD), vs = [.int n, .int d, v] ∧ VT K H v t ∧ 1 ≤ d ∧ d ≤ 60 ∧ (∀ ts, t = .tup ts → ts.length ≤ 1000) ∧ ∀ H', Same H H' → Q (.bl (tabT n d t)) H'
section
variable {P : Program} {w : World} {K : PySem.W.Frag} {mg : Str → Option Value} {base : Heap}
theorem ok_due13 (T : Txt K mg) {j : Nat} : FnOk P w K mg base CX0 (j + 3) T.fDue13 T.fdDue13 ["_law_n", "_law_depth", "_law_value"] (spDue13 K) := by
  refine T.FDue13.ok scDue13 (fun vs H Q E h => ?_) (fun cdv A outer s H vs Q E hr h => ?_)
  · obtain ⟨n, d, v, t, rfl, _⟩ := h
    rfl
  · obtain ⟨n, d, v, t, rfl, hv, hd1, hd, hlt, q⟩ := h
    have hu0 : (A.deeper (envOfC "_law_due" (defScope sDue13) s.heap.objs.size T.fDue13 cdv)).units < cLine := by
      have := hr.un
      omega
    refine ⟨_, pss_cons (ps_if (PW.pt (pw_or (pt_not (pt_val (pe_callB (call_isiK1 K) (by rfl) T.n_isinstance (by decide +kernel) (pa_cons (pv 2) (pa_cons (pe_bltn (v := .ty "tuple") (by rfl) T.n_tuple (by decide +kernel) rfl) pa_nil))))) (pw_or1 (pt_cmpR (op_eqNil K hu0) (pv 2) (pe_tup pa_nil) (nomark _))))) (pss_one (ps_ret pe_bl)) pss_nil) (pss_one (ps_ret (pe_callB (cr_allK K) (by rfl) T.n_all (by decide +kernel) (pa_cons (pe_lc (own := [("_law_one", 3)]) (g := (gName 3)) (tt := tYes) rfl scDue13.nd (pi_tup (pv 2)) (blkOk_by (own := [("_law_one", 3)]) (N := NDue13) (sc := defScope sDue13) (by decide +kernel)) (fun _ _ _ _ _ => (pg_name (i := 3) scDue13.nd rfl (.inl rfl))) (fun _ _ _ _ _ => pts_nil) (fun _ _ _ _ _ => (pe_call (ok_isl13 T) hr (by rfl) T.gIsL13 T.FIsL13.kp T.bIsL13 .nil pass0 (pa_cons (pv 0) (pa_cons (pv 1) (pa_cons (pv 3) pa_nil)))))) pa_nil)))), ?_⟩
    obtain ⟨ty, tm⟩ := hv.ty
    refine ⟨v, rfl, v, .ty "tuple", _, _, _, rfl, .ty _, ty, kit_tuple tm, _, rfl, ?_⟩
    cases hv with
    | int i => exact iteT (iteT (q H (Same.refl H)))
    | oth h m n1 n2 =>
      rename_i t0
      rw [show (tyT (TD.oth t0) == "tuple") = false from n2]
      exact iteT (iteT (q H (Same.refl H)))
    | tup h r =>
      rename_i a xs ts
      have xl := r.len
      have hl2 := hlt ts rfl
      refine iteF ?_
      refine ⟨.ref a, rfl, by show 0 ≤ sizeLine; decide, fun e ne => ?_⟩
      have s1 := same_new (o := .tup []) ne
      refine ⟨a, e, xs, rfl, rfl, Same.seqT s1 h, SqT.of upd_same, _, rfl, ?_⟩
      generalize upd H e (.tup []) = H1 at s1 ⊢
      refine ite2 (fun z => ?_) (fun z => ?_)
      · have z : xs.length = 0 := by simpa using z
        have := q H1 s1
        rw [show tabT n d (.tup ts) = false by
          show (!ts.isEmpty && _) = false
          rw [show ts = [] from List.length_eq_zero_iff.mp (by omega)]
          rfl] at this
        exact this
      have z : ts ≠ [] := fun e => z (by rw [show xs.length = 0 by rw [xl, e]; rfl]; rfl)
      dsimp only [tNext]
      have h1 := Same.seqT s1 h
      refine ⟨.ref a, rfl, a, rfl, ⟨_, h1⟩, fun D nD => ?_⟩
      refine lc_tup (K := K) (a := a) (xs := xs) (fun z H3 => Same H1 H3 ∧ H3 D = some (.lst (((ts.take z).map (listT n d)).map V.bl))) ⟨same_new nD, upd_same⟩ (fun _ H3 _ h3 => Same.seqT h3.1 h1) ?_ ?_
      · rintro z x H3 hz ⟨s3, hD⟩
        obtain ⟨t, ht, hx⟩ := r.at hz
        have hx3 := VT.same (s1.trans s3) hx
        refine ⟨rfl, _, rfl, _, rfl, _, rfl, n, d, x, t, rfl, hx3, hd1, hd, fun H4 s4 => ⟨_, s4 _ _ hD, ?_, keep_upd (s3.trans s4) nD, ?_⟩⟩
        · rw [List.length_map, List.length_map, List.length_take]
          exact small1000 (by omega)
        · rw [upd_same, take_snoc ht, List.map_append, List.map_append]
          rfl
      rintro H3 ⟨s3, hD⟩
      rw [xl, List.take_length] at hD
      refine ⟨D, _, rfl, SqL.of hD, ?_⟩
      have := q H3 (s1.trans s3)
      rw [show tabT n d (.tup ts) = (ts.map (listT n d)).all id by
        rw [List.all_map]
        show (!ts.isEmpty && ts.all (listT n d)) = _
        cases ts with
        | nil => exact absurd rfl z
        | cons _ _ => rfl] at this
      exact this
end
/-! ### the law -/
theorem grow_updD {p D : Addr} {G H G' H' : Hp} {o : HO} (g : Grow p G H G' H') (gd : G' D = none) (hd : H D = none) : Grow p G H G' (upd H' D o) := by
  obtain ⟨a, b, c, d, e⟩ := g
  exact ⟨a, fun x u h => by rw [upd_ne (fun z => by rw [z, gd] at h; cases h)]; exact b x u h, c, d, fun x u n h => by rw [upd_ne (fun z => by rw [z, hd] at h; cases h)]; exact e x u n h⟩
theorem vts_rows13 {K : PySem.W.Frag} {G : Hp} {ts : List V} {rows : List (List Nat)} (R : RowsL K G ts rows) : VTs K G ts (rows.map fun r => TD.tup (r.map fun (x : Nat) => TD.int (x : Int))) := by
  unfold RowsL at R
  induction R with
  | nil => exact .nil
  | cons a _ ih =>
    obtain ⟨t, rfl, ht⟩ := a
    exact .cons (.tup ht (vts_setV _)) ih
theorem tab_long {n : Int} {d : Nat} {rows : List (List Nat)} (h : ∀ r ∈ rows, r.length = d) : tabT n (d + 1) (.tup (rows.map fun r => TD.tup (r.map fun (x : Nat) => TD.int (x : Int)))) = false := by
  cases rows with
  | nil => rfl
  | cons r rows =>
    show (true && (listT n (d + 1) (.tup (r.map fun (x : Nat) => TD.int (x : Int))) && _)) = false
    have : listT n (d + 1) (.tup (r.map fun (x : Nat) => TD.int (x : Int))) = false := by
      show (decide ((r.map fun (x : Nat) => TD.int (x : Int)).length = d + 1) && _) = false
      rw [List.length_map, h r List.mem_cons_self, decide_eq_false (by omega), Bool.false_and]
    rw [this]
    rfl
def spLaw (K : PySem.W.Frag) : Sp := fun vs H Q _ => ∃ (a : Addr) (ns : List Int), vs = [.ref a] ∧ SqL K H a (ns.map V.int) ∧ ns.length ≤ 63 ∧ ∀ H', Q (.bl true) H'
section
variable {P : Program} {w : World} {K : PySem.W.Frag} {mg : Str → Option Value} {base : Heap}
theorem ok_law {f : Addr} {fd : FuncData} (F : Fun K "law" "law" sLaw f fd) (T : Txt K mg) : FnG P w K mg base CX0 9 f fd ["_law_script"] (spLaw K) := by
  refine Fun_ok0 F scLaw (fun vs H Q E h => ?_) (fun cdv A outer s H vs Q E gd hr h => ?_)
  · obtain ⟨a, ns, rfl, _⟩ := h
    rfl
  · obtain ⟨a, ns, rfl, hS, hlen, q⟩ := h
    have hu66 : (A.deeper (envOfC "law" (defScope sLaw) s.heap.objs.size f cdv)).units + 66 < cLine := by
      have := hr.un
      omega
    refine ⟨_, pss_cons (ps_for PassesOwn.never rfl (pi_range1 (by rfl) T.n_range (pa_cons (pe_callB (call_max2 rfl) (by rfl) T.n_max (by decide +kernel) (pa_cons pe_int (pa_cons (pe_callB (call_min2 rfl) (by rfl) T.n_min (by decide +kernel) (pa_cons pe_int (pa_cons (pe_callB (call_lenK K) (by rfl) T.n_len PySem.boot_len (pa_cons (pv 0) pa_nil)) pa_nil))) pa_nil))) pa_nil)) (pg_name (i := 1) scLaw.nd rfl (.inl rfl)) (pss_cons (ps_set (i := 2) scLaw.nd rfl (.inr rfl) (pe_call (ok_pot T) hr (by rfl) T.gPot T.FPot.kp T.bPot .nil pass0 (pa_cons (pv 0) (pa_cons (pv 1) pa_nil)))) (pss_cons (ps_set (i := 3) scLaw.nd rfl (.inr rfl) (pe_call (ok_of T) hr (by rfl) T.gOf T.FOf.kp T.bOf .nil pass0 (pa_cons (pv 2) (pa_cons (pe_lst (pa_cons (pe_op op_add pe_int (pe_call (ok_take T) hr (by rfl) T.gTake T.FTake.kp T.bTake .nil pass0 (pa_cons (pv 2) (pa_cons pe_int pa_nil)))) (pa_cons pe_int (pa_cons (pe_op op_add pe_int (pe_call (ok_take T) hr (by rfl) T.gTake T.FTake.kp T.bTake .nil pass0 (pa_cons (pv 2) (pa_cons pe_int pa_nil)))) pa_nil)))) pa_nil)))) (pss_cons (ps_set (i := 4) scLaw.nd rfl (.inr rfl) (pe_op op_add pe_int (pe_call (ok_take T) hr (by rfl) T.gTake T.FTake.kp T.bTake .nil pass0 (pa_cons (pv 2) (pa_cons (pv 3) pa_nil))))) (pss_cons (ps_set (i := 5) scLaw.nd rfl (.inr rfl) (pe_callTy (call_tupleK K) (by rfl) T.n_tuple (by decide +kernel) (pa_cons (pe_lc (own := [("_law_turn", 6)]) (g := (gName 6)) (tt := tYes) rfl scLaw.nd (pi_range1 (by rfl) T.n_range (pa_cons (pe_op op_add pe_int (pe_call (ok_take T) hr (by rfl) T.gTake T.FTake.kp T.bTake .nil pass0 (pa_cons (pv 2) (pa_cons pe_int pa_nil)))) pa_nil)) (blkOk_by (own := [("_law_turn", 6)]) (N := NLaw) (sc := defScope sLaw) (by decide +kernel)) (fun _ _ _ _ _ => (pg_name (i := 6) scLaw.nd rfl (.inl rfl))) (fun _ _ _ _ _ => pts_nil) (fun _ _ _ _ _ => (pe_callTy (call_tupleK K) (by rfl) T.n_tuple (by decide +kernel) (pa_cons (pe_slice (sl_listK (K := K)) (pe_call (ok_mixed T) hr (by rfl) T.gMixed T.FMixed.kp T.bMixed .nil pass0 (pa_cons (pv 2) (pa_cons (pe_listRg rfl (by rfl) T.n_list (prg_1 (by rfl) T.n_range (pv 3))) pa_nil))) po_none (po_some (pv 4))) pa_nil)))) pa_nil))) (pss_cons (ps_set (i := 7) scLaw.nd rfl (.inl rfl) (pe_lst (pa_cons (pv 5) (pa_cons (pe_tup pa_nil) (pa_cons pe_non (pa_cons pe_bl (pa_cons pe_int (pa_cons pe_str (pa_cons (pe_lst pa_nil) (pa_cons pe_dnewK (pa_cons (pe_tup (pa_cons (pe_tup pa_nil) pa_nil)) (pa_cons (pe_tup (pa_cons (pe_ix (ix_tupK K) (pe_ix (ix_tupK K) (pv 5) pe_int (fun _ _ => rfl)) pe_int (fun _ _ => rfl)) pa_nil)) (pa_cons (pe_lst (pa_cons (pv 5) pa_nil)) (pa_cons (pe_ix (ix_tupK K) (pv 5) pe_int (fun _ _ => rfl)) pa_nil)))))))))))))) (pss_cons (ps_expr (pe_bm PySem.F.plainAttrs_list PySem.F.slot_list_extend PySem.F.type_list_extend mt_extend (pv 7) (pa_cons (pe_lc (own := [("_law_turn", 6)]) (g := (gName 6)) (tt := tYes) rfl scLaw.nd (pi_range1 (by rfl) T.n_range (pa_cons pe_int pa_nil)) (blkOk_by (own := [("_law_turn", 6)]) (N := NLaw) (sc := defScope sLaw) (by decide +kernel)) (fun _ _ _ _ _ => (pg_name (i := 6) scLaw.nd rfl (.inl rfl))) (fun _ _ _ _ _ => pts_nil) (fun _ _ _ _ _ => (pe_call (ok_bent13 T) hr (by rfl) T.gBent13 T.FBent13.kp T.bBent13 .nil pass0 (pa_cons (pv 2) (pa_cons (pv 3) (pa_cons (pv 5) pa_nil)))))) pa_nil))) (pss_cons (ps_for PassesOwn.never rfl (pi_list (pv 7)) (pg_name (i := 8) scLaw.nd rfl (.inl rfl)) (pss_cons (ps_set (i := 9) scLaw.nd rfl (.inl rfl) (pe_callB (call_reprD2 K gd hu66) (by rfl) T.n_repr (by decide +kernel) (pa_cons (pv 8) pa_nil))) (pss_one (ps_if (PW.pt (pw_or (pt_cmpR op_ne (pe_callB (call_reprD2 K gd hu66) (by rfl) T.n_repr (by decide +kernel) (pa_cons (pe_call (ok_istab T) hr (by rfl) T.gIsTab T.FIsTab.kp T.bIsTab .nil pass0 (pa_cons (pv 3) (pa_cons (pv 4) (pa_cons (pv 8) pa_nil)))) pa_nil)) (pe_callB (call_reprD2 K gd hu66) (by rfl) T.n_repr (by decide +kernel) (pa_cons (pe_call (ok_due13 T) hr (by rfl) T.gDue13 T.FDue13.kp T.bDue13 .nil pass0 (pa_cons (pv 3) (pa_cons (pv 4) (pa_cons (pv 8) pa_nil)))) pa_nil)) (nomark _)) (pw_or1 (pt_cmpR op_ne (pe_callB (call_reprD2 K gd hu66) (by rfl) T.n_repr (by decide +kernel) (pa_cons (pv 8) pa_nil)) (pv 9) (nomark _))))) (pss_one (ps_ret pe_bl)) pss_nil)))) (pss_one (ps_if (PW.pt (pw_and (pt_cmpR op_lt (pv 4) (pv 3) (nomark _)) (pw_and1 (pt_cmpR op_notBl (pe_call (ok_istab T) hr (by rfl) T.gIsTab T.FIsTab.kp T.bIsTab .nil pass0 (pa_cons (pv 3) (pa_cons (pe_op op_add (pv 4) pe_int) (pa_cons (pv 5) pa_nil)))) pe_bl (nomark _))))) (pss_one (ps_ret pe_bl)) pss_nil)))))))))) (pss_one (ps_ret pe_bl)), ?_⟩
    refine ⟨.ref a, rfl, a, _, rfl, .inl hS, _, _, rfl, _, _, rfl, _, rfl, ?_, ?_, ?_⟩
    · split <;> split <;> omega
    · split <;> split <;> omega
    refine for_range (lo := 0) (fun i σ H2 => ∃ v1 v2 v3 v4 v5 v6 v7 v8 v9, σ = [some (.ref a), v1, v2, v3, v4, v5, v6, v7, v8, v9] ∧ Same H H2) ⟨none, none, none, none, none, none, none, none, none, rfl, Same.refl _⟩ ?_ ?_
    · rintro i σ H2 hi ⟨v1, v2, v3, v4, v5, v6, v7, v8, v9, rfl, s2⟩
      have hi3 : i < 4 := by
        refine Nat.lt_of_lt_of_le hi ?_
        split <;> split <;> omega
      rw [Int.zero_add]
      refine ⟨.ref a, rfl, _, rfl, a, ns, i, rfl, s2.seq hS, by omega, fun H3 p s3 np P3 => ?_⟩
      dsimp only [gName]
      have fp : H p = none := s2.free np
      refine ⟨.ref p, rfl, .ref p, rfl, p, _, 7, rfl, P3, by omega, by decide, by decide +kernel, fun r1 H4 r10 r1l P4 B4 => ⟨_, _, rfl, rfl, ?_⟩⟩
      refine ⟨.ref p, rfl, p, _, 59, rfl, P4, by omega, by decide, by decide +kernel, fun r2 H5 r20 r2l P5 B5 => ⟨_, _, rfl, rfl, ?_⟩⟩
      refine ⟨by show 3 ≤ sizeLine; decide, fun l nl => ?_⟩
      refine ⟨p, _, l, _, rfl, P5.same (same_new nl), by omega, upd_same, (P5.ne nl).symm, (by show 1 ≤ 3; decide), (by show 3 ≤ 1000; decide), fun v H6 hv P6 B6 => ?_⟩
      have C6 : But p H3 H6 := ((B4.trans B5).same (same_new nl)).trans B6
      obtain ⟨n, rfl, hn1, hn2⟩ : ∃ n : Nat, v = .int (n : Int) ∧ 2 ≤ n ∧ n ≤ 60 := by
        rcases List.mem_cons.mp hv with rfl | hv
        · exact ⟨(2 + r1).toNat, by rw [Int.toNat_of_nonneg (by omega)], by omega, by omega⟩
        rcases List.mem_cons.mp hv with rfl | hv
        · exact ⟨60, rfl, by omega, by omega⟩
        rcases List.mem_cons.mp hv with rfl | hv
        · exact ⟨(2 + r2).toNat, by rw [Int.toNat_of_nonneg (by omega)], by omega, by omega⟩
        cases hv
      clear hv B4 B5 B6 P4 P5 r10 r1l r20 r2l
      dsimp only [gName]
      refine ⟨.ref p, rfl, _, rfl, p, _, (n : Int), rfl, P6, by omega, by omega, Int.lt_of_le_of_lt (Int.ofNat_le.mpr hn2) (by decide +kernel), fun r3 H7 r30 r3l P7 B7 => ⟨_, _, rfl, rfl, ?_⟩⟩
      obtain ⟨r3, rfl⟩ := Int.eq_ofNat_of_zero_le r30
      dsimp only [gName]
      rw [show (1 : Int) + (r3 : Int) = ((1 + r3 : Nat) : Int) by omega]
      have hd1 : 1 ≤ 1 + r3 := by omega
      have hdn : 1 + r3 ≤ n := by omega
      generalize 1 + r3 = d at hd1 hdn ⊢
      have g7 : Grow p H2 H3 H2 H7 := grow_but s3 np (C6.trans B7)
      refine ⟨.ref p, rfl, p, _, 5, rfl, P7, by omega, by decide, by decide +kernel, fun r4 H8 r40 r4l P8 B8 => ⟨_, _, rfl, rfl, ?_⟩⟩
      obtain ⟨r4, rfl⟩ := Int.eq_ofNat_of_zero_le r40
      have g8 := g7.trans (grow_but g7.2.1 g7.2.2.1 B8)
      clear g7 C6 B7 B8 P6 P7
      dsimp only [tNil]
      rw [show (1 : Int) + (r4 : Int) = ((1 + r4 : Nat) : Int) by omega]
      have hm1 : 1 ≤ 1 + r4 := by omega
      have hm5 : 1 + r4 ≤ 5 := by omega
      generalize 1 + r4 = m at hm1 hm5 ⊢
      refine ⟨m, rfl, by omega, by omega, fun D nD => ?_⟩
      rw [Int.toNat_natCast]
      have hpp : ∀ {H' : Hp} {m' : Nat}, PotAt H' p m' → H' p ≠ none := fun h e => by
        obtain ⟨a, b, c, h, _⟩ := h
        rw [e] at h
        cases h
      have Dp0 : D ≠ p := fun e => hpp P8 (by rw [← e]; exact nD)
      have n3D : H3 D = none := by
        cases h : H3 D with
        | none => rfl
        | some o =>
          have := g8.2.2.2.2 _ _ Dp0 h
          rw [nD] at this
          cases this
      have n2D : H2 D = none := s3.free n3D
      refine lc_range (lo := 0) (n := m) (fun z H9 => ∃ G vs rows, Grow p H2 H3 G H9 ∧ G D = none ∧ H9 D = some (.lst vs) ∧ RowsL K G vs rows ∧ rows.length = z ∧ (∀ r ∈ rows, r.length = d ∧ r.Nodup ∧ ∀ x ∈ r, x < n) ∧ PotAt H9 p (10 + 61 * z)) ⟨H2, [], [], grow_updD g8 n2D n3D, n2D, upd_same, .nil, rfl, fun r h => absurd h List.not_mem_nil, (P8.mono (by omega)).upd Dp0.symm⟩ ?_ ?_
      · rintro z H9 hz ⟨G, vs, rows, g9, gD, hD, R9, rl, dr, P9⟩
        refine ⟨rfl, .ref p, rfl, _, rfl, _, rfl, .of_le (by omega) (by omega) (by omega) (by omega), fun pe ne => ?_⟩
        rw [setV_range n]
        have se := same_new (o := .lst (setV (List.range' 0 n))) ne
        refine ⟨p, _, pe, _, rfl, P9.same se, by omega, .inl (SqL.of upd_same), by rw [setV_len, List.length_range']; omega, Els.set (fun x hx => by have := mem_range0.mp hx; omega), fun H10 q7 ys B10 n7 h7 pm P10 => ?_⟩
        obtain ⟨ks, rfl, pk⟩ := perm_setV pm
        rw [setV_len, List.length_range'] at P10
        have kl := pk.length_eq
        rw [List.length_range'] at kl
        refine ⟨_, rfl, _, rfl, q7, _, rfl, SqL.of h7, fun q9 n9 => ?_⟩
        rw [cut_take]
        have s9 := same_new (o := .lst (setV (ks.take d))) n9
        have h9 : (upd H10 q9 (.lst (setV (ks.take d)))) q9 = some (.lst (setV (ks.take d))) := upd_same
        have P11 := P10.same s9
        have C11 : But p H9 (upd H10 q9 (.lst (setV (ks.take d)))) := ((But.of se).trans B10).trans (But.of s9)
        show tNil _ (upd H10 q9 (.lst (setV (ks.take d)))) _
        generalize upd H10 q9 (.lst (setV (ks.take d))) = H11 at s9 h9 P11 C11 ⊢
        refine ⟨q9, _, rfl, .inl ⟨SqL.of h9, fun t nt => ?_⟩⟩
        have g11 := g9.trans (grow_but g9.2.1 g9.2.2.1 C11)
        obtain ⟨G12, g12, e12⟩ := step_new (o := .tup (setV (ks.take d))) g11.2.1 g11.2.2.1 (hpp P11) nt
        have T12 := g11.trans g12
        have P12 := P11.same (same_new (o := .tup (setV (ks.take d))) nt)
        have hD11 := C11 _ _ Dp0 hD
        have hD12 := same_new (o := .tup (setV (ks.take d))) nt _ _ hD11
        have gD12 : G12 D = none := g12.2.2.2.1 D gD (by rw [hD11]; exact fun z => by cases z)
        have vl := R9.len
        refine ⟨vs, hD12, by rw [vl, rl, sizeLine_eq]; omega, G12, vs ++ [.ref t], rows ++ [ks.take d], grow_updD T12 gD12 n3D, gD12, upd_same, RowsL.app (PySem.Paired.mono (fun v ms ⟨t, e, z⟩ => ⟨t, e, Same.seqT g12.1 z⟩) R9) (.cons ⟨t, rfl, SqT.of e12⟩ .nil), by rw [List.length_append, rl]; rfl, fun r hr => ?_, (P12.mono (by omega)).upd Dp0.symm⟩
        rcases List.mem_append.mp hr with h | h
        · exact dr r h
        · rw [List.mem_singleton.mp h]
          refine ⟨by rw [List.length_take]; omega, ?_, fun x hx => mem_range0.mp (pk.mem_iff.mp (List.mem_of_mem_take hx))⟩
          exact (pk.nodup_iff.mpr List.nodup_range').sublist (List.take_sublist _ _)
      rintro H9 ⟨G, vs, rows, g9, gD, hD, R9, rl, dr, P9⟩
      refine ⟨D, _, rfl, .inl ⟨SqL.of hD, fun a1 na1 => ?_⟩⟩
      obtain ⟨G10, g10, e10⟩ := step_new (o := .tup vs) g9.2.1 g9.2.2.1 (hpp P9) na1
      have T10 := g9.trans g10
      have P10 := P9.same (same_new (o := .tup vs) na1)
      have R10 : RowsL K G10 vs rows := PySem.Paired.mono (fun v ms ⟨t, e, z⟩ => ⟨t, e, Same.seqT g10.1 z⟩) R9
      show gName 5 (.ref a1) _ (upd H9 a1 (.tup vs)) _
      generalize upd H9 a1 (.tup vs) = H10 at T10 P10 ⊢
      clear g10 P9 g9 hD gD R9 na1 g8 P8 nD n3D n2D Dp0
      have vl := R10.len
      have R13 : Rows13 rows := ⟨by omega, by omega, fun r hr => by
        obtain ⟨h1, _, h3⟩ := dr r hr
        exact ⟨by omega, by omega, fun x hx => by have := h3 x hx; omega⟩⟩
      dsimp only [gName]
      obtain ⟨r0, rs0, er⟩ := List.exists_cons_of_ne_nil (show rows ≠ [] from fun e => by rw [e] at rl; simp at rl; omega)
      obtain ⟨u0, hu0, hU0⟩ : ∃ u0, vs[0]? = some (V.ref u0) ∧ SqT K G10 u0 (setV r0) := by
        subst er
        cases R10 with
        | cons a b =>
          obtain ⟨t, rfl, ht⟩ := a
          exact ⟨t, rfl, ht⟩
      obtain ⟨hr1, hr2, hr3⟩ := R13.2.2 r0 (by rw [er]; exact List.mem_cons_self)
      have hx0 : r0[0]? = some r0[0] := List.getElem?_eq_getElem hr1
      refine ⟨_, rfl, by show 0 ≤ sizeLine; decide, fun t11 n11 => ?_⟩
      obtain ⟨G11, g11, e11⟩ := step_new (o := .tup []) T10.2.1 T10.2.2.1 (hpp P10) n11
      have T11 := T10.trans g11
      have P11 := P10.same (same_new (o := .tup []) n11)
      show tCons _ _ _ (upd H10 t11 (.tup [])) _
      generalize upd H10 t11 (.tup []) = H11 at g11 T11 P11 ⊢
      refine ⟨by show 0 ≤ sizeLine; decide, fun t12 n12 => ?_⟩
      obtain ⟨G12, g12, e12⟩ := step_new (o := .lst []) T11.2.1 T11.2.2.1 (hpp P11) n12
      have T12 := T11.trans g12
      have P12 := P11.same (same_new (o := .lst []) n12)
      show tCons _ _ _ (upd H11 t12 (.lst [])) _
      generalize upd H11 t12 (.lst []) = H12 at g12 T12 P12 ⊢
      intro t13 n13
      obtain ⟨G13, g13, e13⟩ := step_new (o := .dK []) T12.2.1 T12.2.2.1 (hpp P12) n13
      have T13 := T12.trans g13
      have P13 := P12.same (same_new (o := .dK []) n13)
      show tCons _ _ _ (upd H12 t13 (.dK [])) _
      generalize upd H12 t13 (.dK []) = H13 at g13 T13 P13 ⊢
      refine ⟨by show 0 ≤ sizeLine; decide, fun t14 n14 => ?_⟩
      obtain ⟨G14, g14, e14⟩ := step_new (o := .tup []) T13.2.1 T13.2.2.1 (hpp P13) n14
      have T14 := T13.trans g14
      have P14 := P13.same (same_new (o := .tup []) n14)
      show tNil _ (upd H13 t14 (.tup [])) _
      generalize upd H13 t14 (.tup []) = H14 at g14 T14 P14 ⊢
      refine ⟨by show 1 ≤ sizeLine; decide, fun t15 n15 => ?_⟩
      obtain ⟨G15, g15, e15⟩ := step_new (o := .tup [V.ref t14]) T14.2.1 T14.2.2.1 (hpp P14) n15
      have T15 := T14.trans g15
      have P15 := P14.same (same_new (o := .tup [V.ref t14]) n15)
      show tCons _ _ _ (upd H14 t15 (.tup [V.ref t14])) _
      generalize upd H14 t15 (.tup [V.ref t14]) = H15 at g15 T15 P15 ⊢
      have hA15 : SqT K G15 a1 vs := SqT.of (g15.1 _ _ (g14.1 _ _ (g13.1 _ _ (g12.1 _ _ (g11.1 _ _ e10)))))
      have m1015 : Same G10 G15 := (g11.1.trans g12.1).trans ((g13.1.trans g14.1).trans g15.1)
      refine ⟨.ref a1, rfl, a1, vs, _, _, rfl, rfl, Same.seqT T15.2.1 hA15, atI_nat (j := 0) hu0, u0, setV r0, _, _, rfl, rfl, Same.seqT (m1015.trans T15.2.1) hU0, atI_nat (j := 0) (setV_at hx0), by show 1 ≤ sizeLine; decide, fun t16 n16 => ?_⟩
      obtain ⟨G16, g16, e16⟩ := step_new (o := .tup [V.int ((r0[0] : Nat) : Int)]) T15.2.1 T15.2.2.1 (hpp P15) n16
      have T16 := T15.trans g16
      have P16 := P15.same (same_new (o := .tup [V.int ((r0[0] : Nat) : Int)]) n16)
      show tCons _ _ _ (upd H15 t16 (.tup [V.int ((r0[0] : Nat) : Int)])) _
      generalize upd H15 t16 (.tup [V.int ((r0[0] : Nat) : Int)]) = H16 at g16 T16 P16 ⊢
      refine ⟨.ref a1, rfl, by show 1 ≤ sizeLine; decide, fun t17 n17 => ?_⟩
      obtain ⟨G17, g17, e17⟩ := step_new (o := .lst [V.ref a1]) T16.2.1 T16.2.2.1 (hpp P16) n17
      have T17 := T16.trans g17
      have P17 := P16.same (same_new (o := .lst [V.ref a1]) n17)
      show tCons _ _ _ (upd H16 t17 (.lst [V.ref a1])) _
      generalize upd H16 t17 (.lst [V.ref a1]) = H17 at g17 T17 P17 ⊢
      have m1517 : Same G15 G17 := g16.1.trans g17.1
      have m1017 := m1015.trans m1517
      have hA17 : SqT K G17 a1 vs := Same.seqT m1517 hA15
      have hU17 : SqT K G17 u0 (setV r0) := Same.seqT m1017 hU0
      refine ⟨.ref a1, rfl, a1, vs, _, _, rfl, rfl, Same.seqT T17.2.1 hA17, atI_nat (j := 0) hu0, ?_⟩
      refine ⟨by show 12 ≤ sizeLine; decide, fun l2 nl2 => ?_⟩
      generalize hw0 : [V.ref a1, V.ref t11, V.non, V.bl true, V.int 0, V.str "", V.ref t12, V.ref t13, V.ref t15, V.ref t16, V.ref t17, V.ref u0] = w0
      have R17 : RowsL K G17 vs rows := PySem.Paired.mono (fun v ms ⟨t, e, z⟩ => ⟨t, e, Same.seqT m1017 z⟩) R10
      have w3 : (434 + 1) * vs.length ≤ 435 * 6 := Nat.mul_le_mul_left 435 (by omega)
      have hr60 : ∀ x ∈ rows, x.length ≤ 60 ∧ ∀ y ∈ x, y < 60 := fun x hx => (R13.2.2 x hx).2
      have val0 : ∀ v ∈ w0, Val K G17 5 20000 v := by
        rw [← hw0]
        intro v hv
        obtain ⟨te, de, pe⟩ := pl_rows (K := K) (G := G17) R17 hr60
        obtain ⟨tf, df, pf⟩ := pl_one pe hA17
        have up : ∀ {v : V}, Val K G17 2 1000 v → Val K G17 5 20000 v := fun h => h.mono13 (by decide) (by decide)
        have f11 := m1517.trans (Same.refl G17) _ _ (g15.1 _ _ (g14.1 _ _ (g13.1 _ _ (g12.1 _ _ e11))))
        have f12 := m1517 _ _ (g15.1 _ _ (g14.1 _ _ (g13.1 _ _ e12)))
        have f13 := m1517 _ _ (g15.1 _ _ (g14.1 _ _ e13))
        have f14 := m1517 _ _ (g15.1 _ _ e14)
        have f15 := m1517 _ _ e15
        have f16 := g17.1 _ _ e16
        simp only [List.mem_cons, List.not_mem_nil, or_false] at hv
        rcases hv with rfl | rfl | rfl | rfl | rfl | rfl | rfl | rfl | rfl | rfl | rfl | rfl
        · exact (val_pl pe (by omega) hA17).mono13 (by decide) (by omega)
        · exact up (val_row (r := []) (SqT.of f11) (by decide) (by simp))
        · exact up val_non
        · exact up (val_bl true)
        · exact up (val_int (by decide))
        · exact up val_empty
        · exact up (val_listV (r := []) f12 (by decide) (by simp))
        · exact up (val_dic0 f13)
        · exact (val_mix (pre := []) (post := []) (wt := 0) .nil .nil (val_row (r := []) (SqT.of f14) (by decide) (by simp)) (by decide) (SqT.of f15)).mono13 (by decide) (by decide)
        · exact up (val_row (r := [r0[0]]) (SqT.of f16) (by show 1 ≤ 62; decide) (fun x hx => by rw [List.mem_singleton.mp hx]; exact hr3 _ (List.getElem_mem hr1)))
        · exact (val_pll pf e17).mono13 (by decide) (by show ((434 + 1) * vs.length + 1) * 1 ≤ 20000; omega)
        · exact up (val_row hU17 (by omega) hr3)
      have wl0 : w0.length = 12 := by rw [← hw0]; rfl
      have lp : l2 ≠ p := fun e => hpp P17 (by rw [← e]; exact nl2)
      have n3l : H3 l2 = none := by
        cases h : H3 l2 with
        | none => rfl
        | some o =>
          have := T17.2.2.2.2 _ _ lp h
          rw [nl2] at this
          cases this
      have gl : G17 l2 = none := T17.2.1.free nl2
      have T18 := grow_updD (o := .lst w0) T17 gl n3l
      have P18 := (P17.upd (o := .lst w0) lp.symm).mono (n := 1000) (by omega)
      have hl18 : (upd H17 l2 (.lst w0)) l2 = some (.lst w0) := upd_same
      show gName 7 (.ref l2) _ (upd H17 l2 (.lst w0)) _
      generalize upd H17 l2 (.lst w0) = H18 at T18 P18 hl18 ⊢
      clear hw0 T17 P17 nl2 T16 P16 T15 P15 T14 P14 T13 P13 T12 P12 T11 P11 T10 P10 g11 g12 g13 g14 g15 g16 g17 e10 e11 e12 e13 e14 e15 e16 e17 n11 n12 n13 n14 n15 n16 n17 m1015 m1517 m1017 hA15 hU17 hU0 R10
      dsimp only [gName]
      refine ⟨.ref l2, rfl, .inl ⟨rfl, _, SqL.of hl18⟩, 12, rfl, by decide, by decide, fun D nD => ?_⟩
      have Dp0 : D ≠ p := fun e => hpp P18 (by rw [← e]; exact nD)
      have Dl : D ≠ l2 := fun e => by rw [e, hl18] at nD; cases nD
      have n3D : H3 D = none := by
        cases h : H3 D with
        | none => rfl
        | some o =>
          have := T18.2.2.2.2 _ _ Dp0 h
          rw [nD] at this
          cases this
      have gD17 : G17 D = none := T18.2.1.free nD
      refine lc_range (lo := 0) (n := 12) (fun z H9 => ∃ G vs2, Grow p H2 H3 G H9 ∧ G D = none ∧ G l2 = none ∧ H9 D = some (.lst vs2) ∧ H9 l2 = some (.lst w0) ∧ vs2.length = z ∧ (∀ v ∈ w0, Val K G 5 20000 v) ∧ (∀ v ∈ vs2, Val K G 5 20000 v) ∧ SqT K G a1 vs ∧ RowsL K G vs rows ∧ PotAt H9 p (1000 + 5 * z)) ⟨G17, [], grow_updD T18 gD17 n3D, gD17, gl, upd_same, by rw [upd_ne Dl.symm]; exact hl18, rfl, val0, fun v h => absurd h List.not_mem_nil, hA17, R17, P18.upd Dp0.symm⟩ ?_ ?_
      · rintro z H9 hz ⟨G, vs2, g9, gD, gl2, hD, hl, vl2, va, vb, hA, R9, P9⟩
        refine ⟨rfl, .ref p, rfl, _, rfl, .ref a1, rfl, p, a1, _, n, vs, rows, G, rfl, P9, by omega, hn1, hn2, g9.2.1, g9.2.2.1, hA, R9, R13, fun H10 G10 v g10 P10 v10 => ?_⟩
        have T10 := g9.trans g10
        have hD10 := g10.2.2.2.2 _ _ Dp0 hD
        have hl10 := g10.2.2.2.2 _ _ lp hl
        have gD10 : G10 D = none := g10.2.2.2.1 D gD (by rw [hD]; exact fun z => by cases z)
        have gl10 : G10 l2 = none := g10.2.2.2.1 l2 gl2 (by rw [hl]; exact fun z => by cases z)
        refine ⟨vs2, hD10, by rw [vl2, sizeLine_eq]; omega, G10, vs2 ++ [v], grow_updD T10 gD10 n3D, gD10, gl10, upd_same, by rw [upd_ne Dl.symm]; exact hl10, by rw [List.length_append, vl2]; rfl, fun x hx => (va x hx).same g10.1, fun x hx => ?_, Same.seqT g10.1 hA, PySem.Paired.mono (fun v ms ⟨t, e, z⟩ => ⟨t, e, Same.seqT g10.1 z⟩) R9, (P10.mono (by omega)).upd Dp0.symm⟩
        rcases List.mem_append.mp hx with h | h
        · exact (vb x h).same g10.1
        · rw [List.mem_singleton.mp h]
          exact v10
      rintro H9 ⟨G, vs2, g9, gD, gl2, hD, hl, vl2, va, vb, hA, R9, P9⟩
      refine ⟨l2, D, w0, vs2, rfl, rfl, hl, hD, by rw [wl0, vl2, sizeLine_eq]; decide, ?_⟩
      have T20 := grow_updD (o := .lst (w0 ++ vs2)) g9 gl2 n3l
      have hl20 : (upd H9 l2 (.lst (w0 ++ vs2))) l2 = some (.lst (w0 ++ vs2)) := upd_same
      have vals : ∀ v ∈ w0 ++ vs2, Val K G 5 20000 v := fun v hv => (List.mem_append.mp hv).elim (va v) (vb v)
      dsimp only
      generalize upd H9 l2 (.lst (w0 ++ vs2)) = H20 at T20 hl20 ⊢
      generalize w0 ++ vs2 = ww at hl20 vals
      clear g9 gD gl2 hD hl va vb P9 T18 P18 hl18 val0 nD
      refine ⟨.ref l2, rfl, l2, rfl, ⟨_, SqL.of hl20⟩, ?_⟩
      refine for_list (K := K) (a := l2) (xs := ww) (fun z σ HA => ∃ v8 v9, σ = [some (.ref a), some (.int (i : Int)), some (.ref p), some (.int (n : Int)), some (.int (d : Int)), some (.ref a1), v6, some (.ref l2), v8, v9] ∧ Same H20 HA) ⟨v8, v9, rfl, Same.refl _⟩ (fun _ σ HA _ ⟨_, _, _, sA⟩ => SqL.of (sA _ _ hl20)) ?_ ?_
      · rintro z v σ HA hz ⟨v8, v9, rfl, sA⟩
        have vv := vals v (List.mem_of_getElem? hz)
        obtain ⟨⟨t, vt, tl⟩, _⟩ := id vv
        obtain ⟨dd, sd⟩ := vv.show (by decide) (by decide)
        have sGA : Same G HA := T20.2.1.trans sA
        dsimp only [gName]
        refine ⟨v, rfl, v, dd, rfl, showd_same sGA sd, ?_⟩
        dsimp only [gName]
        have bs : ∀ {Hx : Hp} (b : Bool), ShowD K Hx (.bl b) (.bool b) := fun b => .inl ⟨.bl b, (Sh.bool b).mono (by decide) (by decide)⟩
        refine ⟨_, rfl, _, rfl, v, rfl, (n : Int), d, v, t, rfl, VT.same sGA vt, by omega, fun HB sB => ?_⟩
        refine ⟨_, _, rfl, bs _, ?_⟩
        refine ⟨_, rfl, _, rfl, v, rfl, (n : Int), d, v, t, rfl, VT.same (sGA.trans sB) vt, hd1, by omega, tl, fun HC sC => ?_⟩
        refine ⟨_, _, rfl, bs _, ?_⟩
        refine ⟨rfl, _, rfl, iteNS rfl ?_⟩
        refine ⟨v, rfl, v, dd, rfl, showd_same (sGA.trans (sB.trans sC)) sd, _, rfl, rfl, _, rfl, iteNS rfl ?_⟩
        exact ⟨_, _, rfl, sA.trans (sB.trans sC)⟩
      rintro σ HA ⟨v8, v9, rfl, sA⟩
      have sG := T20.2.1.trans sA
      have SH : Same H HA := fun b o e => sA b o (T20.2.2.2.2 b o (ne_of_none e fp) (s3 b o (s2 b o e)))
      refine ⟨_, rfl, _, rfl, _, _, rfl, rfl, _, rfl, ite2 (fun c => ?_) (fun c => iteF ?_)⟩
      · have c : (d : Int) < (n : Int) := of_decide_eq_true c
        refine ⟨_, rfl, _, rfl, _, _, rfl, rfl, _, rfl, (n : Int), d + 1, .ref a1, _, rfl, VT.same sG (.tup hA (vts_rows13 R9)), by omega, fun HB sB => ?_⟩
        rw [tab_long fun r hr => (dr r hr).1]
        refine ⟨_, _, rfl, rfl, _, rfl, iteNS rfl ?_⟩
        exact ⟨_, _, _, _, _, _, _, _, _, rfl, SH.trans sB⟩
      · exact ⟨_, _, _, _, _, _, _, _, _, rfl, SH⟩
    · rintro σ H2 ⟨v1, v2, v3, v4, v5, v6, v7, v8, v9, rfl, s2⟩
      exact q _
end
theorem all_mk {l : PySem.W.OpenLaw} {w : World} {K : PySem.W.Frag} {h : Heap} {mg : Str → Option Value} {fa f1 f2 f3 f4 f5 f6 f7 f8 f9 f10 f11 f12 : Addr} (X : K.In h) (G : h.Ns mainGlobals mg) (hfa : mg "law" = some (.ref fa))
    {od1 an1 od2 an2 od3 an3 od4 an4 od5 an5 od6 an6 od7 an7 od8 an8 od9 an9 od10 an10 od11 an11 od12 an12 : Option Addr} {sl1 sl2 sl3 sl4 sl5 sl6 sl7 sl8 sl9 sl10 sl11 sl12 : Array (Option Value)} {oc1 kV1 dc1 pm1 cd1 ct1 oc2 kV2 dc2 pm2 cd2 ct2 oc3 kV3 dc3 pm3 cd3 ct3 oc4 kV4 dc4 pm4 cd4 ct4 oc5 kV5 dc5 pm5 cd5 ct5 oc6 kV6 dc6 pm6 cd6 ct6 oc7 kV7 dc7 pm7 cd7 ct7 oc8 kV8 dc8 pm8 cd8 ct8 oc9 kV9 dc9 pm9 cd9 ct9 oc10 kV10 dc10 pm10 cd10 ct10 oc11 kV11 dc11 pm11 cd11 ct11 oc12 kV12 dc12 pm12 cd12 ct12 : Value}
    (a1 : PySem.W.nsIn K mainGlobals "is_plain_int" = some (some (.ref f1)))
    (l1 : K.lookup f1 = some ⟨oc1, od1, .func (PySem.W.fnOf "is_plain_int" "is_plain_int" (defArgs sPlain) (defBody sPlain) (defScope sPlain) .none kV1 dc1 pm1 an1 cd1 ct1), sl1⟩)
    (c1 : PySem.W.codeIn K cd1 "is_plain_int" = true)
    (k1 : PySem.W.keepIn K (.ref f1) = true)
    (a2 : PySem.W.nsIn K mainGlobals "is_list" = some (some (.ref f2)))
    (l2 : K.lookup f2 = some ⟨oc2, od2, .func (PySem.W.fnOf "is_list" "is_list" (defArgs sIsL) (defBody sIsL) (defScope sIsL) .none kV2 dc2 pm2 an2 cd2 ct2), sl2⟩)
    (c2 : PySem.W.codeIn K cd2 "is_list" = true)
    (k2 : PySem.W.keepIn K (.ref f2) = true)
    (a3 : PySem.W.nsIn K mainGlobals "is_table" = some (some (.ref f3)))
    (l3 : K.lookup f3 = some ⟨oc3, od3, .func (PySem.W.fnOf "is_table" "is_table" (defArgs sIsTab) (defBody sIsTab) (defScope sIsTab) .none kV3 dc3 pm3 an3 cd3 ct3), sl3⟩)
    (c3 : PySem.W.codeIn K cd3 "is_table" = true)
    (k3 : PySem.W.keepIn K (.ref f3) = true)
    (a4 : PySem.W.nsIn K mainGlobals "_law_pot" = some (some (.ref f4)))
    (l4 : K.lookup f4 = some ⟨oc4, od4, .func (PySem.W.fnOf "_law_pot" "_law_pot" (defArgs sPot) (defBody sPot) (defScope sPot) .none kV4 dc4 pm4 an4 cd4 ct4), sl4⟩)
    (c4 : PySem.W.codeIn K cd4 "_law_pot" = true)
    (k4 : PySem.W.keepIn K (.ref f4) = true)
    (a5 : PySem.W.nsIn K mainGlobals "_law_take" = some (some (.ref f5)))
    (l5 : K.lookup f5 = some ⟨oc5, od5, .func (PySem.W.fnOf "_law_take" "_law_take" (defArgs sTake) (defBody sTake) (defScope sTake) .none kV5 dc5 pm5 an5 cd5 ct5), sl5⟩)
    (c5 : PySem.W.codeIn K cd5 "_law_take" = true)
    (k5 : PySem.W.keepIn K (.ref f5) = true)
    (a6 : PySem.W.nsIn K mainGlobals "_law_of" = some (some (.ref f6)))
    (l6 : K.lookup f6 = some ⟨oc6, od6, .func (PySem.W.fnOf "_law_of" "_law_of" (defArgs sOf) (defBody sOf) (defScope sOf) .none kV6 dc6 pm6 an6 cd6 ct6), sl6⟩)
    (c6 : PySem.W.codeIn K cd6 "_law_of" = true)
    (k6 : PySem.W.keepIn K (.ref f6) = true)
    (a7 : PySem.W.nsIn K mainGlobals "_law_mixed" = some (some (.ref f7)))
    (l7 : K.lookup f7 = some ⟨oc7, od7, .func (PySem.W.fnOf "_law_mixed" "_law_mixed" (defArgs sMixed) (defBody sMixed) (defScope sMixed) .none kV7 dc7 pm7 an7 cd7 ct7), sl7⟩)
    (c7 : PySem.W.codeIn K cd7 "_law_mixed" = true)
    (k7 : PySem.W.keepIn K (.ref f7) = true)
    (a8 : PySem.W.nsIn K mainGlobals "_law_odd" = some (some (.ref f8)))
    (l8 : K.lookup f8 = some ⟨oc8, od8, .func (PySem.W.fnOf "_law_odd" "_law_odd" (defArgs sOdd13) (defBody sOdd13) (defScope sOdd13) .none kV8 dc8 pm8 an8 cd8 ct8), sl8⟩)
    (c8 : PySem.W.codeIn K cd8 "_law_odd" = true)
    (k8 : PySem.W.keepIn K (.ref f8) = true)
    (a9 : PySem.W.nsIn K mainGlobals "_law_bent" = some (some (.ref f9)))
    (l9 : K.lookup f9 = some ⟨oc9, od9, .func (PySem.W.fnOf "_law_bent" "_law_bent" (defArgs sBent13) (defBody sBent13) (defScope sBent13) .none kV9 dc9 pm9 an9 cd9 ct9), sl9⟩)
    (c9 : PySem.W.codeIn K cd9 "_law_bent" = true)
    (k9 : PySem.W.keepIn K (.ref f9) = true)
    (a10 : PySem.W.nsIn K mainGlobals "_law_is_list" = some (some (.ref f10)))
    (l10 : K.lookup f10 = some ⟨oc10, od10, .func (PySem.W.fnOf "_law_is_list" "_law_is_list" (defArgs sIsL13) (defBody sIsL13) (defScope sIsL13) .none kV10 dc10 pm10 an10 cd10 ct10), sl10⟩)
    (c10 : PySem.W.codeIn K cd10 "_law_is_list" = true)
    (k10 : PySem.W.keepIn K (.ref f10) = true)
    (a11 : PySem.W.nsIn K mainGlobals "_law_due" = some (some (.ref f11)))
    (l11 : K.lookup f11 = some ⟨oc11, od11, .func (PySem.W.fnOf "_law_due" "_law_due" (defArgs sDue13) (defBody sDue13) (defScope sDue13) .none kV11 dc11 pm11 an11 cd11 ct11), sl11⟩)
    (c11 : PySem.W.codeIn K cd11 "_law_due" = true)
    (k11 : PySem.W.keepIn K (.ref f11) = true)
    (a12 : PySem.W.nsIn K mainGlobals "law" = some (some (.ref f12)))
    (l12 : K.lookup f12 = some ⟨oc12, od12, .func (PySem.W.fnOf "law" "law" (defArgs sLaw) (defBody sLaw) (defScope sLaw) .none kV12 dc12 pm12 an12 cd12 ct12), sl12⟩)
    (c12 : PySem.W.codeIn K cd12 "law" = true)
    (k12 : PySem.W.keepIn K (.ref f12) = true)
    (z1 : PySem.W.nsIn K mainGlobals "abs" = some none)
    (z2 : PySem.W.nsIn K mainGlobals "all" = some none)
    (z3 : PySem.W.nsIn K mainGlobals "bool" = some none)
    (z4 : PySem.W.nsIn K mainGlobals "int" = some none)
    (z5 : PySem.W.nsIn K mainGlobals "isinstance" = some none)
    (z6 : PySem.W.nsIn K mainGlobals "len" = some none)
    (z7 : PySem.W.nsIn K mainGlobals "list" = some none)
    (z8 : PySem.W.nsIn K mainGlobals "max" = some none)
    (z9 : PySem.W.nsIn K mainGlobals "min" = some none)
    (z10 : PySem.W.nsIn K mainGlobals "range" = some none)
    (z11 : PySem.W.nsIn K mainGlobals "repr" = some none)
    (z12 : PySem.W.nsIn K mainGlobals "set" = some none)
    (z13 : PySem.W.nsIn K mainGlobals "tuple" = some none)
    : ∃ fd : FuncData, (∀ (s : Shared) (v : Value), BindsTo s fd ⟨[v], []⟩ [("_law_script", v)]) ∧ ∀ base : Heap, K.In base → base.Ns mainGlobals mg → FnG l.prog w K mg base CX0 9 fa fd ["_law_script"] (spLaw K) := by
  have e := hfa.symm.trans (PySem.W.mg_of X G a12)
  cases e
  have F1 := fun_mk (st := sPlain) l1 c1 k1
  have b1 := F1.binds (ps := ["thing"]) fun _ _ _ _ _ _ us hl => match us, hl with | [_], _ => rfl
  have F2 := fun_mk (st := sIsL) l2 c2 k2
  have b2 := F2.binds (ps := ["n", "depth", "thing"]) fun _ _ _ _ _ _ us hl => match us, hl with | [_, _, _], _ => rfl
  have F3 := fun_mk (st := sIsTab) l3 c3 k3
  have b3 := F3.binds (ps := ["n", "depth", "thing"]) fun _ _ _ _ _ _ us hl => match us, hl with | [_, _, _], _ => rfl
  have F4 := fun_mk (st := sPot) l4 c4 k4
  have b4 := F4.binds (ps := ["_law_script", "_law_k"]) fun _ _ _ _ _ _ us hl => match us, hl with | [_, _], _ => rfl
  have F5 := fun_mk (st := sTake) l5 c5 k5
  have b5 := F5.binds (ps := ["_law_pot_here", "_law_size"]) fun _ _ _ _ _ _ us hl => match us, hl with | [_, _], _ => rfl
  have F6 := fun_mk (st := sOf) l6 c6 k6
  have b6 := F6.binds (ps := ["_law_pot_here", "_law_some"]) fun _ _ _ _ _ _ us hl => match us, hl with | [_, _], _ => rfl
  have F7 := fun_mk (st := sMixed) l7 c7 k7
  have b7 := F7.binds (ps := ["_law_pot_here", "_law_some"]) fun _ _ _ _ _ _ us hl => match us, hl with | [_, _], _ => rfl
  have F8 := fun_mk (st := sOdd13) l8 c8 k8
  have b8 := F8.binds (ps := ["_law_pot_here", "_law_n", "_law_one"]) fun _ _ _ _ _ _ us hl => match us, hl with | [_, _, _], _ => rfl
  have F9 := fun_mk (st := sBent13) l9 c9 k9
  have b9 := F9.binds (ps := ["_law_pot_here", "_law_n", "_law_rows"]) fun _ _ _ _ _ _ us hl => match us, hl with | [_, _, _], _ => rfl
  have F10 := fun_mk (st := sIsL13) l10 c10 k10
  have b10 := F10.binds (ps := ["_law_n", "_law_depth", "_law_one"]) fun _ _ _ _ _ _ us hl => match us, hl with | [_, _, _], _ => rfl
  have F11 := fun_mk (st := sDue13) l11 c11 k11
  have b11 := F11.binds (ps := ["_law_n", "_law_depth", "_law_value"]) fun _ _ _ _ _ _ us hl => match us, hl with | [_, _, _], _ => rfl
  have F12 := fun_mk (st := sLaw) l12 c12 k12
  have T : Txt K mg := ⟨f1, _, F1, b1, PySem.W.mg_of X G a1, f2, _, F2, b2, PySem.W.mg_of X G a2, f3, _, F3, b3, PySem.W.mg_of X G a3, f4, _, F4, b4, PySem.W.mg_of X G a4, f5, _, F5, b5, PySem.W.mg_of X G a5, f6, _, F6, b6, PySem.W.mg_of X G a6, f7, _, F7, b7, PySem.W.mg_of X G a7, f8, _, F8, b8, PySem.W.mg_of X G a8, f9, _, F9, b9, PySem.W.mg_of X G a9, f10, _, F10, b10, PySem.W.mg_of X G a10, f11, _, F11, b11, PySem.W.mg_of X G a11, PySem.W.mg_none_of X G z1, PySem.W.mg_none_of X G z2, PySem.W.mg_none_of X G z3, PySem.W.mg_none_of X G z4, PySem.W.mg_none_of X G z5, PySem.W.mg_none_of X G z6, PySem.W.mg_none_of X G z7, PySem.W.mg_none_of X G z8, PySem.W.mg_none_of X G z9, PySem.W.mg_none_of X G z10, PySem.W.mg_none_of X G z11, PySem.W.mg_none_of X G z12, PySem.W.mg_none_of X G z13⟩
  exact ⟨PySem.W.fnOf "law" "law" (defArgs sLaw) (defBody sLaw) (defScope sLaw) .none kV12 dc12 pm12 an12 cd12 ct12, fun s v => .of_eq rfl, fun base _ _ => ok_law F12 T⟩
end Ef
open PySem PySem.W PyProof.Rows
set_option maxRecDepth 100000 in
set_option maxHeartbeats 0 in
theorem PySem.Challenge.cw_evenfailover_k13_tables_of_any_value_holds : PySem.Challenge.rw_evenfailover_k13_tables_of_any_value.Holds := by
  w_on; o_law; k_head; (case hw => w_witness2)
  k_fill
  refine Ef.lawG (l := PySem.Challenge.rw_evenfailover_k13_tables_of_any_value) (n := 63) (k := 9) (x := "_law_script") (sp := fun w => Ef.spLaw _) rfl (by decide) rfl ⟨rfl, by decide, by decide⟩ (fun w h Y => PySem.W.kIn_of Y) ?F (fun _ _ a ns hl _ hS => ⟨a, ns, rfl, hS, hl, fun _ => rfl⟩)
  case F =>
    intro w mg fa h KX G hmg
    refine' Ef.all_mk KX G hmg ?a1 ?l1 ?c1 ?k1 ?a2 ?l2 ?c2 ?k2 ?a3 ?l3 ?c3 ?k3 ?a4 ?l4 ?c4 ?k4 ?a5 ?l5 ?c5 ?k5 ?a6 ?l6 ?c6 ?k6 ?a7 ?l7 ?c7 ?k7 ?a8 ?l8 ?c8 ?k8 ?a9 ?l9 ?c9 ?k9 ?a10 ?l10 ?c10 ?k10 ?a11 ?l11 ?c11 ?k11 ?a12 ?l12 ?c12 ?k12 ?z1 ?z2 ?z3 ?z4 ?z5 ?z6 ?z7 ?z8 ?z9 ?z10 ?z11 ?z12 ?z13
    (case a1 => k_is)
    (case l1 => k_is)
    (case c1 => k_is)
    (case k1 => k_is)
    (case a2 => k_is)
    (case l2 => k_is)
    (case c2 => k_is)
    (case k2 => k_is)
    (case a3 => k_is)
    (case l3 => k_is)
    (case c3 => k_is)
    (case k3 => k_is)
    (case a4 => k_is)
    (case l4 => k_is)
    (case c4 => k_is)
    (case k4 => k_is)
    (case a5 => k_is)
    (case l5 => k_is)
    (case c5 => k_is)
    (case k5 => k_is)
    (case a6 => k_is)
    (case l6 => k_is)
    (case c6 => k_is)
    (case k6 => k_is)
    (case a7 => k_is)
    (case l7 => k_is)
    (case c7 => k_is)
    (case k7 => k_is)
    (case a8 => k_is)
    (case l8 => k_is)
    (case c8 => k_is)
    (case k8 => k_is)
    (case a9 => k_is)
    (case l9 => k_is)
    (case c9 => k_is)
    (case k9 => k_is)
    (case a10 => k_is)
    (case l10 => k_is)
    (case c10 => k_is)
    (case k10 => k_is)
    (case a11 => k_is)
    (case l11 => k_is)
    (case c11 => k_is)
    (case k11 => k_is)
    (case a12 => k_is)
    (case l12 => k_is)
    (case c12 => k_is)
    (case k12 => k_is)
    (case z1 => k_is)
    (case z2 => k_is)
    (case z3 => k_is)
    (case z4 => k_is)
    (case z5 => k_is)
    (case z6 => k_is)
    (case z7 => k_is)
    (case z8 => k_is)
    (case z9 => k_is)
    (case z10 => k_is)
    (case z11 => k_is)
    (case z12 => k_is)
    (case z13 => k_is)

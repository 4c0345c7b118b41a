import PyProof.Rows.All
import Wide.All
import OpenK.AllK
import Wide.FinOn
import HandS.ForMost
import HandS.RaiseMore
import HandS.Strs
import HandS.SetFor
import HandS.Conv
import HandS.Wide
import HandS.IsInst
import HandS.Codes
import HandS.TupAny
import HandS.ForExc
import HandS.ExcInit
import HandS.ExcField
import HandS.ExcIs
import HandS.ExcOwn
import HandS.TupSets
import HandS.Walk
import HandS.RevRange
import HandS.Rev
import HandS.Style
import HandS.DictComp
import KE.GoesMore
import HandS.Flt
import HandS.Zip
import KE.KTurns
import HandS.Lambda
import HandS.EndTab
import PySem.Challenge.RW_evenfailover_k11_lists_that_are_refused
set_option Elab.async false
set_option linter.all false
set_option maxRecDepth 100000
set_option maxHeartbeats 4000000
namespace Ef
/-- Pascal's triangle -/
def C : Nat → Nat → Nat
  | _, 0 => 1
  | 0, _ + 1 => 0
  | n + 1, k + 1 => C n k + C n (k + 1)
theorem C_zero (n : Nat) : C n 0 = 1 := by cases n <;> rfl
theorem C_zs (k : Nat) : C 0 (k + 1) = 0 := rfl
theorem C_ss (n k : Nat) : C (n + 1) (k + 1) = C n k + C n (k + 1) := rfl
theorem C_big : ∀ (n k : Nat), n < k → C n k = 0
  | 0, k + 1, _ => rfl
  | n + 1, k + 1, h => by
    rw [C_ss, C_big n k (by omega), C_big n (k + 1) (by omega)]
theorem C_self : ∀ n : Nat, C n n = 1
  | 0 => rfl
  | n + 1 => by rw [C_ss, C_self n, C_big n (n + 1) (by omega)]
theorem C_absorb : ∀ (n k : Nat), C (n + 1) (k + 1) * (k + 1) = (n + 1) * C n k
  | 0, 0 => rfl
  | 0, k + 1 => by
    rw [C_ss, C_zs, C_zs]; simp
  | n + 1, 0 => by
    have h := C_absorb n 0
    rw [C_zero] at h
    rw [C_ss, C_zero]
    omega
  | n + 1, j + 1 => by
    have h1 := C_absorb n j
    have h2 := C_absorb n (j + 1)
    have e : C (n + 1) (j + 1) = C n j + C n (j + 1) := C_ss n j
    rw [C_ss (n + 1) (j + 1)]
    have a1 : (C (n + 1) (j + 1) + C (n + 1) (j + 1 + 1)) * (j + 1 + 1) = C (n + 1) (j + 1) * (j + 1) + C (n + 1) (j + 1) + C (n + 1) (j + 1 + 1) * (j + 1 + 1) := by
      rw [Nat.add_mul, Nat.mul_succ (C (n + 1) (j + 1)) (j + 1)]
    rw [a1, h1, h2]
    have a2 : (n + 1 + 1) * C (n + 1) (j + 1) = (n + 1) * C (n + 1) (j + 1) + C (n + 1) (j + 1) := Nat.succ_mul _ _
    rw [a2]
    have a3 : (n + 1) * C (n + 1) (j + 1) = (n + 1) * C n j + (n + 1) * C n (j + 1) := by rw [e, Nat.mul_add]
    rw [a3]
    omega
theorem C_step (n k : Nat) (h : k ≤ n) : C n (k + 1) * (k + 1) = C n k * (n - k) := by
  have h1 := C_absorb n k
  rw [C_ss, Nat.add_mul] at h1
  have h2 : (n + 1) * C n k = C n k * (k + 1) + C n k * (n - k) := by
    rw [← Nat.mul_add, Nat.mul_comm]
    congr 1
    omega
  omega
theorem C_symm : ∀ (n k : Nat), k ≤ n → C n k = C n (n - k)
  | n, 0, _ => by rw [C_zero, Nat.sub_zero, C_self]
  | n + 1, k + 1, h => by
    by_cases e : k = n
    · subst e
      rw [C_self, Nat.sub_self, C_zero]
    · have e1 : n + 1 - (k + 1) = (n - (k + 1)) + 1 := by omega
      rw [e1, C_ss, C_ss, ← C_symm n (k + 1) (by omega), show n - (k + 1) + 1 = n - k by omega, ← C_symm n k (by omega), Nat.add_comm]
theorem C_le : ∀ (n k : Nat), C n k ≤ 2 ^ n
  | n, 0 => by rw [C_zero]; exact Nat.one_le_two_pow
  | 0, k + 1 => by rw [C_zs]; exact Nat.zero_le _
  | n + 1, k + 1 => by
    have a := C_le n k
    have b := C_le n (k + 1)
    rw [C_ss, Nat.pow_succ]
    omega
theorem C_pos : ∀ (n k : Nat), k ≤ n → 0 < C n k
  | n, 0, _ => by rw [C_zero]; decide
  | n + 1, k + 1, h => by
    rw [C_ss]
    have := C_pos n k (by omega)
    omega
theorem C_min (n k : Nat) (h : k ≤ n) : C n (min k (n - k)) = C n k := by
  by_cases e : k ≤ n - k
  · rw [Nat.min_eq_left e]
  · rw [Nat.min_eq_right (by omega), ← C_symm n k h]
theorem C_60 (n k : Nat) (h : n ≤ 60) : C n k ≤ 1152921504606846976 := Nat.le_trans (C_le n k) (Nat.le_trans (Nat.pow_le_pow_right (by decide) h) (by decide))
/-- what the program's binomial answers -/
def binZ (n k : Int) : Int := if k < 0 ∨ n < k then 0 else (C n.toNat k.toNat : Int)
theorem binZ_nat (n k : Nat) : binZ n k = (C n k : Int) := by
  unfold binZ
  by_cases h : n < k
  · rw [if_pos (by omega), C_big n k h]; rfl
  · rw [if_neg (by omega)]; simp
/-- one step of its product -/
theorem C_div (n s : Nat) (h : s < n) : ((C n s : Int) * ((n : Int) + 1 - (1 + (s : Int)))) / (1 + (s : Int)) = (C n (s + 1) : Int) := by
  have e : (C n s : Int) * ((n : Int) + 1 - (1 + (s : Int))) = (C n (s + 1) : Int) * (1 + (s : Int)) := by
    have h1 := C_step n s (by omega)
    have h2 : ((n : Int) + 1 - (1 + (s : Int))) = ((n - s : Nat) : Int) := by omega
    have h3 : (1 + (s : Int)) = ((s + 1 : Nat) : Int) := by omega
    rw [h2, h3, ← Int.natCast_mul, ← Int.natCast_mul, h1]
  rw [e]
  exact Int.mul_ediv_cancel _ (by omega)
end Ef
namespace Ef
/-! ### the least numbers of lists -/
def stepL (a b : Nat) : Nat := a / Nat.gcd a b * b
def leastL (n : Nat) : Nat → Nat
  | 0 => 1
  | d + 1 => stepL (leastL n d) (n * C (n - 1) d)
theorem stepL_pos {a b : Nat} (ha : 0 < a) (hb : 0 < b) : 0 < stepL a b := by
  unfold stepL
  have h1 : Nat.gcd a b ≤ a := Nat.gcd_le_left b ha
  have h2 : 0 < Nat.gcd a b := Nat.gcd_pos_of_pos_left b ha
  exact Nat.mul_pos (Nat.div_pos h1 h2) hb
theorem edge_pos {n d : Nat} (h : d < n) : 0 < n * C (n - 1) d := Nat.mul_pos (by omega) (C_pos _ _ (by omega))
theorem leastL_pos {n : Nat} : ∀ {d : Nat}, d ≤ n → 0 < leastL n d
  | 0, _ => Nat.one_pos
  | d + 1, h => stepL_pos (leastL_pos (by omega)) (edge_pos (by omega))
theorem C_adj : ∀ (n k : Nat), C n k + C n (k + 1) ≤ 2 ^ n
  | 0, 0 => by decide
  | 0, k + 1 => by
    rw [C_zs, C_zs]
    decide
  | n + 1, 0 => by
    have h := C_adj n 0
    have h1 : 1 ≤ 2 ^ n := Nat.one_le_two_pow
    rw [C_zero] at h
    rw [C_ss, C_zero, C_zero, Nat.pow_succ]
    omega
  | n + 1, j + 1 => by
    have h := C_adj n j
    have h2 := C_adj n (j + 1)
    rw [C_ss, C_ss, Nat.pow_succ]
    omega
theorem C_half (n k : Nat) (h : 1 ≤ n) : C n k ≤ 2 ^ (n - 1) := by
  obtain ⟨m, rfl⟩ : ∃ m, n = m + 1 := ⟨n - 1, by omega⟩
  cases k with
  | zero =>
    rw [C_zero]
    exact Nat.one_le_two_pow
  | succ k => exact C_adj m k
theorem edge_lt {n d : Nat} (h : n ≤ 60) : n * C (n - 1) d < 18446744073709551616 := by
  by_cases h1 : n ≤ 1
  · have e : n - 1 = 0 := by omega
    have h2 : C (n - 1) d ≤ 2 ^ 0 := by rw [e]; exact C_le 0 d
    exact Nat.lt_of_le_of_lt (Nat.mul_le_mul h1 h2) (by decide)
  · have h2 : C (n - 1) d ≤ 2 ^ 58 := Nat.le_trans (C_half (n - 1) d (by omega)) (Nat.pow_le_pow_right (by decide) (by omega))
    exact Nat.lt_of_le_of_lt (Nat.mul_le_mul h h2) (by decide)
/-! rows of the triangle, reckoned one from the other -/
def nextRow : List Nat → List Nat := fun r => 1 :: List.zipWith (· + ·) r r.tail
def isRow (n : Nat) (r : List Nat) : Prop := ∀ k, k ≤ 60 → r[k]? = some (C n k)
theorem nextRow_is {n : Nat} {r : List Nat} (h : isRow n r) : ∀ k, k ≤ 60 → (nextRow r)[k]? = some (C (n + 1) k)
  | 0, _ => by
    rw [C_zero]
    rfl
  | k + 1, hk => by
    have h1 := h k (by omega)
    have h2 := h (k + 1) hk
    unfold nextRow
    rw [List.getElem?_cons_succ, List.getElem?_zipWith, h1, List.getElem?_tail, h2]
    rfl
def row0 : List Nat := 1 :: List.replicate 60 0
theorem row0_is : isRow 0 row0 := fun k hk => by
  cases k with
  | zero => rfl
  | succ k =>
    unfold row0
    rw [List.getElem?_cons_succ, List.getElem?_replicate, if_pos (by omega)]
    rfl
/-- P holds along the chain of least numbers: f of each -/
def chainOk (n : Nat) (f : Nat → Nat → Bool) : Nat → Nat → Nat → List Nat → Bool
  | 0, d, a, _ => f d a
  | m + 1, d, a, c :: r => f d a && chainOk n f m (d + 1) (stepL a (n * c)) r
  | _ + 1, _, _, [] => false
theorem chain_all {n : Nat} {f : Nat → Nat → Bool} {row : List Nat} (hr : isRow (n - 1) row) (hn : n ≤ 60) : ∀ (m d : Nat), d + m = n → chainOk n f m d (leastL n d) (row.drop d) = true → ∀ e, d ≤ e → e ≤ n → f e (leastL n e) = true
  | 0, d, h, ok, e, h1, h2 => by
    have e1 : e = d := by omega
    subst e1
    exact ok
  | m + 1, d, h, ok, e, h1, h2 => by
    have hd := hr d (by omega)
    have hlt : d < row.length := (List.getElem?_eq_some_iff.mp hd).1
    have hdr : row.drop d = C (n - 1) d :: row.drop (d + 1) := by
      rw [List.drop_eq_getElem_cons hlt]
      congr 1
      rw [List.getElem?_eq_getElem hlt] at hd
      exact Option.some.inj hd
    rw [hdr] at ok
    have ok2 : (f d (leastL n d) && chainOk n f m (d + 1) (leastL n (d + 1)) (row.drop (d + 1))) = true := ok
    rw [Bool.and_eq_true] at ok2
    by_cases c : e = d
    · rw [c]
      exact ok2.1
    · exact chain_all hr hn m (d + 1) (by omega) ok2.2 e (by omega) h2
def rowsOk (f : Nat → Nat → Nat → Bool) : Nat → Nat → List Nat → Bool
  | 0, _, _ => true
  | m + 1, n, row => chainOk n (f n) n 0 1 row && rowsOk f m (n + 1) (nextRow row)
theorem rows_all {f : Nat → Nat → Nat → Bool} : ∀ (m n : Nat) (row : List Nat), isRow (n - 1) row → 1 ≤ n → rowsOk f m n row = true → ∀ k, n ≤ k → k < n + m → k ≤ 60 → ∀ d, d ≤ k → f k d (leastL k d) = true
  | 0, _, _, _, _, _, k, h1, h2, _, _, _ => by omega
  | m + 1, n, row, hr, h0, ok, k, h1, h2, h6, d, hd => by
    have ok2 : (chainOk n (f n) n 0 1 row && rowsOk f m (n + 1) (nextRow row)) = true := ok
    rw [Bool.and_eq_true] at ok2
    by_cases c : k = n
    · subst c
      exact chain_all hr h6 k 0 (by omega) ok2.1 d (by omega) hd
    · have hr2 : isRow (n + 1 - 1) (nextRow row) := fun j hj => by
        have e : n + 1 - 1 = (n - 1) + 1 := by omega
        rw [e]
        exact nextRow_is hr j hj
      exact rows_all m (n + 1) (nextRow row) hr2 (by omega) ok2.2 k (by omega) (by omega) h6 d hd
theorem small_ok : rowsOk (fun _ _ a => Nat.blt a (2 ^ 100)) 60 1 row0 = true := by decide +kernel
theorem leastL_lt {n d : Nat} (h1 : 1 ≤ n) (h6 : n ≤ 60) (hd : d ≤ n) : leastL n d < 2 ^ 100 := by
  have h := rows_all 60 1 row0 row0_is (by decide) small_ok n h1 (by omega) h6 d hd
  have h2 : Nat.blt (leastL n d) (2 ^ 100) = true := h
  rw [Nat.blt_eq] at h2
  exact h2
end Ef
namespace Ef
/-! ### the standard table -/
theorem stepL_left (a b : Nat) (ha : 0 < a) : a ∣ stepL a b := by
  unfold stepL
  have h1 : Nat.gcd a b ∣ a := Nat.gcd_dvd_left a b
  have h2 : Nat.gcd a b ∣ b := Nat.gcd_dvd_right a b
  refine ⟨b / Nat.gcd a b, ?_⟩
  obtain ⟨x, hx⟩ := h1
  obtain ⟨y, hy⟩ := h2
  have g0 : 0 < Nat.gcd a b := Nat.gcd_pos_of_pos_left b ha
  generalize Nat.gcd a b = g at hx hy g0
  subst hx hy
  rw [Nat.mul_div_cancel_left _ g0, Nat.mul_div_cancel_left _ g0, Nat.mul_comm g x, Nat.mul_assoc]
theorem stepL_right (a b : Nat) : b ∣ stepL a b := ⟨a / Nat.gcd a b, Nat.mul_comm _ _⟩
theorem leastL_dvd {n : Nat} : ∀ {d : Nat}, d ≤ n → ∀ b, b < d → n * C (n - 1) b ∣ leastL n d
  | 0, _, b, h => by omega
  | d + 1, hd, b, h => by
    by_cases e : b = d
    · subst e
      exact stepL_right _ _
    · exact Nat.dvd_trans (leastL_dvd (by omega) b (by omega)) (stepL_left _ _ (leastL_pos (by omega)))
/-- width of a block at a level -/
def wd (n c s : Nat) : Nat := c / (n * C (n - 1) s)
theorem wd_eq {n c s : Nat} (h : n * C (n - 1) s ∣ c) : wd n c s * (n * C (n - 1) s) = c := Nat.div_mul_cancel h
theorem wd_pos {n c s : Nat} (h : n * C (n - 1) s ∣ c) (hc : 0 < c) : 0 < wd n c s := by
  have e := wd_eq h
  cases z : wd n c s with
  | zero =>
    rw [z, Nat.zero_mul] at e
    omega
  | succ k => omega
theorem wd_step {n c b : Nat} (h1 : n * C (n - 1) b ∣ c) (h2 : n * C (n - 1) (b + 1) ∣ c) (hb : b + 1 < n) : wd n c b * (b + 1) = wd n c (b + 1) * (n - (b + 1)) := by
  have e1 := wd_eq h1
  have e2 := wd_eq h2
  have s := C_step (n - 1) b (by omega)
  have p : 0 < n * C (n - 1) b := edge_pos (by omega)
  have x1 : wd n c b * (b + 1) * (n * C (n - 1) b) = c * (b + 1) := by
    rw [Nat.mul_right_comm, e1]
  have x2 : wd n c (b + 1) * (n - (b + 1)) * (n * C (n - 1) b) = c * (b + 1) := by
    have y : wd n c (b + 1) * (n * C (n - 1) (b + 1)) * (b + 1) = c * (b + 1) := by rw [e2]
    rw [← y, Nat.mul_assoc, Nat.mul_assoc (wd n c (b + 1)), Nat.mul_assoc n, s, show n - 1 - b = n - (b + 1) by omega]
    congr 1
    rw [Nat.mul_comm (n - (b + 1)), Nat.mul_assoc]
  exact Nat.eq_of_mul_eq_mul_right p (x1.trans x2.symm)
theorem wd_zero {n c : Nat} (h : n * C (n - 1) 0 ∣ c) : wd n c 0 * n = c := by
  have e := wd_eq h
  rw [C_zero, Nat.mul_one] at e
  exact e
theorem wd_le (n c s : Nat) : wd n c s ≤ c := Nat.div_le_self _ _
/-- what 'follow' takes and what it leaves -/
def fol (n c : Nat) : List Nat → List Nat → Nat → List Nat × Nat
  | [], _, r => ([], r)
  | s :: ss, L, r => (L.getD (r / wd n c s) 0 :: (fol n c ss (L.eraseIdx (r / wd n c s)) (wd n c s * (L.getD (r / wd n c s) 0 - r / wd n c s) + r % wd n c s)).1,
      (fol n c ss (L.eraseIdx (r / wd n c s)) (wd n c s * (L.getD (r / wd n c s) 0 - r / wd n c s) + r % wd n c s)).2)
def FolOk (n c : Nat) : List Nat → List Nat → Nat → Prop
  | [], _, _ => True
  | s :: ss, L, r => 0 < wd n c s ∧ r / wd n c s < L.length ∧ r / wd n c s ≤ L.getD (r / wd n c s) 0 ∧
      FolOk n c ss (L.eraseIdx (r / wd n c s)) (wd n c s * (L.getD (r / wd n c s) 0 - r / wd n c s) + r % wd n c s)
theorem fol_cons (n c s : Nat) (ss L : List Nat) (r : Nat) : fol n c (s :: ss) L r = (L.getD (r / wd n c s) 0 :: (fol n c ss (L.eraseIdx (r / wd n c s)) (wd n c s * (L.getD (r / wd n c s) 0 - r / wd n c s) + r % wd n c s)).1, (fol n c ss (L.eraseIdx (r / wd n c s)) (wd n c s * (L.getD (r / wd n c s) 0 - r / wd n c s) + r % wd n c s)).2) := rfl
theorem fol_len (n c : Nat) : ∀ ss L r, (fol n c ss L r).1.length = ss.length
  | [], _, _ => rfl
  | s :: ss, L, r => congrArg (· + 1) (fol_len n c ss _ _)
/-- ascending -/
abbrev Asc (L : List Nat) : Prop := L.Pairwise (· < ·)
theorem getD_of {L : List Nat} {i : Nat} (h : i < L.length) : L[i]? = some (L.getD i 0) := by
  rw [List.getD_eq_getElem?_getD, List.getElem?_eq_getElem h]
  rfl
/-- an ascending list counted from lo -/
theorem asc_from : ∀ {L : List Nat} {lo : Nat}, Asc L → (∀ x ∈ L, lo ≤ x) → ∀ {i x : Nat}, L[i]? = some x → lo + i ≤ x
  | [], _, _, _, _, _, h => by cases h
  | y :: L, lo, a, hl, 0, x, h => by
    obtain rfl : y = x := Option.some.inj h
    exact hl y List.mem_cons_self
  | y :: L, lo, a, hl, i + 1, x, h => by
    have h1 : L[i]? = some x := h
    have hy := hl y List.mem_cons_self
    have h2 := asc_from (L := L) (lo := lo + 1) (List.pairwise_cons.mp a).2 (fun z hz => by
      have := (List.pairwise_cons.mp a).1 z hz
      omega) h1
    omega
theorem asc_ge {L : List Nat} (a : Asc L) {i x : Nat} (h : L[i]? = some x) : i ≤ x := by
  have := asc_from a (lo := 0) (fun _ _ => Nat.zero_le _) h
  omega
theorem asc_le : ∀ {L : List Nat} {n : Nat}, Asc L → (∀ x ∈ L, x < n) → ∀ {i x : Nat}, L[i]? = some x → x + (L.length - i) ≤ n
  | [], _, _, _, _, _, h => by cases h
  | [y], n, _, hl, 0, x, h => by
    obtain rfl : y = x := Option.some.inj h
    have := hl y List.mem_cons_self
    show y + 1 ≤ n
    omega
  | y :: z :: L, n, a, hl, 0, x, h => by
    obtain rfl : y = x := Option.some.inj h
    have h1 := asc_le (L := z :: L) (List.pairwise_cons.mp a).2 (fun u hu => hl u (List.mem_cons_of_mem _ hu)) (i := 0) (x := z) rfl
    have h2 := (List.pairwise_cons.mp a).1 z List.mem_cons_self
    have e : (y :: z :: L).length = (z :: L).length + 1 := rfl
    omega
  | y :: L, n, a, hl, i + 1, x, h => by
    have h1 := asc_le (L := L) (List.pairwise_cons.mp a).2 (fun u hu => hl u (List.mem_cons_of_mem _ hu)) (i := i) (x := x) h
    have e : (y :: L).length = L.length + 1 := rfl
    omega
theorem asc_erase {L : List Nat} (a : Asc L) (i : Nat) : Asc (L.eraseIdx i) := a.sublist (List.eraseIdx_sublist L i)
/-- the way forward keeps within its bounds -/
theorem folOk_path {n c d : Nat} (hd : ∀ b, b < d → n * C (n - 1) b ∣ c) (hc : 0 < c) (hdn : d ≤ n) : ∀ (m b : Nat) (L : List Nat) (r : Nat), b + m = d → Asc L → (∀ x ∈ L, x < n) → L.length = n - b → (b < d → r < wd n c b * (n - b)) → FolOk n c (List.range' b m) L r
  | 0, _, _, _, _, _, _, _, _ => trivial
  | m + 1, b, L, r, e, a, hl, hlen, hr => by
    have hb := hd b (by omega)
    have w0 := wd_pos hb hc
    have hr2 := hr (by omega)
    have hi : r / wd n c b < L.length := by
      rw [hlen]
      exact Nat.div_lt_of_lt_mul hr2
    have hx := getD_of hi
    have g1 := asc_ge a hx
    have g2 := asc_le a hl hx
    refine ⟨w0, hi, g1, ?_⟩
    refine folOk_path hd hc hdn m (b + 1) _ _ (by omega) (asc_erase a _) (fun x hx => hl x (List.mem_of_mem_eraseIdx hx)) ?_ (fun hlt => ?_)
    · rw [List.length_eraseIdx, if_pos hi]
      omega
    · rw [← wd_step hb (hd (b + 1) hlt) (by omega)]
      have h1 : r % wd n c b < wd n c b := Nat.mod_lt _ w0
      have h2 : L.getD (r / wd n c b) 0 - r / wd n c b ≤ b := by omega
      have h3 : wd n c b * (L.getD (r / wd n c b) 0 - r / wd n c b) ≤ wd n c b * b := Nat.mul_le_mul_left _ h2
      rw [Nat.mul_add, Nat.mul_one]
      omega
/-- count of lists and depth that go together -/
structure Std (n d c : Nat) : Prop where
  n60 : n ≤ 60
  n1 : 1 ≤ n
  dn : d ≤ n
  c0 : 0 < c
  dv : leastL n d ∣ c
theorem Std.dvd {n d c : Nat} (h : Std n d c) (b : Nat) (hb : b < d) : n * C (n - 1) b ∣ c := Nat.dvd_trans (leastL_dvd h.dn b hb) h.dv
def path (n d c k : Nat) : List Nat × Nat := fol n c (List.range' 0 d) (List.range' 0 n) k
theorem asc_range' : ∀ (m b : Nat), Asc (List.range' b m) := fun m b => List.pairwise_lt_range'
theorem mem_range0 {n x : Nat} : x ∈ List.range' 0 n ↔ x < n := by
  rw [List.mem_range']
  exact ⟨fun ⟨i, h1, h2⟩ => by omega, fun h => ⟨x, h, by omega⟩⟩
theorem path_ok {n d c k : Nat} (h : Std n d c) (hk : k < c) : FolOk n c (List.range' 0 d) (List.range' 0 n) k :=
  folOk_path h.dvd h.c0 h.dn d 0 _ _ (by omega) (asc_range' n 0) (fun x hx => mem_range0.mp hx) (by rw [List.length_range']; omega) fun hd => by
    rw [Nat.sub_zero, wd_zero (h.dvd 0 hd)]
    exact hk
theorem fol_mem {n c : Nat} : ∀ {ss L : List Nat} {r : Nat}, FolOk n c ss L r → ∀ x ∈ (fol n c ss L r).1, x ∈ L
  | [], _, _, _, x, hx => by cases hx
  | s :: ss, L, r, ok, x, hx => by
    rw [fol_cons] at hx
    obtain ⟨_, h2, _, ok2⟩ := ok
    rcases List.mem_cons.mp hx with rfl | hx
    · exact List.mem_of_getElem? (getD_of h2)
    · exact List.mem_of_mem_eraseIdx (fol_mem ok2 x hx)
theorem nodup_inj {L : List Nat} (hn : L.Nodup) {i j x : Nat} (h1 : L[i]? = some x) (h2 : L[j]? = some x) : i = j := by
  obtain ⟨a1, a2⟩ := List.getElem?_eq_some_iff.mp h1
  obtain ⟨b1, b2⟩ := List.getElem?_eq_some_iff.mp h2
  rcases Nat.lt_trichotomy i j with c | c | c
  · exact absurd (a2.trans b2.symm) (List.pairwise_iff_getElem.mp hn i j a1 b1 c)
  · exact c
  · exact absurd (b2.trans a2.symm) (List.pairwise_iff_getElem.mp hn j i b1 a1 c)
theorem not_mem_erase {L : List Nat} {i x : Nat} (hn : L.Nodup) (h : L[i]? = some x) : x ∉ L.eraseIdx i := by
  intro hm
  obtain ⟨k, hk⟩ := List.getElem?_of_mem hm
  rw [List.getElem?_eraseIdx] at hk
  split at hk
  · have := nodup_inj hn hk h
    omega
  · have := nodup_inj hn hk h
    omega
theorem fol_nodup {n c : Nat} : ∀ {ss L : List Nat} {r : Nat}, FolOk n c ss L r → L.Nodup → (fol n c ss L r).1.Nodup
  | [], _, _, _, _ => List.nodup_nil
  | s :: ss, L, r, ok, hn => by
    rw [fol_cons]
    obtain ⟨_, h2, _, ok2⟩ := ok
    refine List.nodup_cons.mpr ⟨fun hx => not_mem_erase hn (getD_of h2) (fol_mem ok2 _ hx), fol_nodup ok2 (hn.sublist (List.eraseIdx_sublist _ _))⟩
theorem asc_nodup {L : List Nat} (h : Asc L) : L.Nodup := h.imp fun z => Nat.ne_of_lt z
theorem path_nodup {n d c k : Nat} (h : Std n d c) (hk : k < c) : (path n d c k).1.Nodup := fol_nodup (path_ok h hk) (asc_nodup (asc_range' n 0))
theorem path_lt {n d c k : Nat} (h : Std n d c) (hk : k < c) : ∀ x ∈ (path n d c k).1, x < n := fun x hx => mem_range0.mp (fol_mem (path_ok h hk) x hx)
theorem path_len (n d c k : Nat) : (path n d c k).1.length = d := by
  unfold path
  rw [fol_len, List.length_range']
theorem fol_rest {n c d : Nat} (hd : ∀ b, b < d → n * C (n - 1) b ∣ c) (hc : 0 < c) (hdn : d ≤ n) : ∀ (m b : Nat) (L : List Nat) (r : Nat), b + m = d → Asc L → (∀ x ∈ L, x < n) → L.length = n - b → (b < d → r < wd n c b * (n - b)) → r < c → (fol n c (List.range' b m) L r).2 < c
  | 0, _, _, _, _, _, _, _, _, h => h
  | m + 1, b, L, r, e, a, hl, hlen, hr, h => by
    have hb := hd b (by omega)
    have w0 := wd_pos hb hc
    have hr2 := hr (by omega)
    have hi : r / wd n c b < L.length := by
      rw [hlen]
      exact Nat.div_lt_of_lt_mul hr2
    have hx := getD_of hi
    have g1 := asc_ge a hx
    have g2 := asc_le a hl hx
    have h1 : r % wd n c b < wd n c b := Nat.mod_lt _ w0
    have h2 : L.getD (r / wd n c b) 0 - r / wd n c b ≤ b := by omega
    have h3 : wd n c b * (L.getD (r / wd n c b) 0 - r / wd n c b) ≤ wd n c b * b := Nat.mul_le_mul_left _ h2
    have h4 : wd n c b * (L.getD (r / wd n c b) 0 - r / wd n c b) + r % wd n c b < wd n c b * (b + 1) := by
      rw [Nat.mul_add, Nat.mul_one]
      omega
    have h5 : wd n c b * (b + 1) ≤ c := by
      have p : 0 < C (n - 1) b := C_pos _ _ (by omega)
      have p2 : b + 1 ≤ n * C (n - 1) b := Nat.le_trans (show b + 1 ≤ n * 1 by omega) (Nat.mul_le_mul_left n p)
      have := Nat.mul_le_mul_left (wd n c b) p2
      rw [wd_eq hb] at this
      exact this
    rw [List.range'_succ, fol_cons]
    refine fol_rest hd hc hdn m (b + 1) _ _ (by omega) (asc_erase a _) (fun x hx => hl x (List.mem_of_mem_eraseIdx hx)) ?_ (fun hlt => ?_) (by omega)
    · rw [List.length_eraseIdx, if_pos hi]
      omega
    · rw [← wd_step hb (hd (b + 1) hlt) (by omega)]
      exact h4
theorem path_rest {n d c k : Nat} (h : Std n d c) (hk : k < c) : (path n d c k).2 < c :=
  fol_rest h.dvd h.c0 h.dn d 0 _ _ (by omega) (asc_range' n 0) (fun x hx => mem_range0.mp hx) (by rw [List.length_range']; omega) (fun hd => by
    rw [Nat.sub_zero, wd_zero (h.dvd 0 hd)]
    exact hk) hk
theorem asc_unique {L M : List Nat} (a : Asc L) (b : Asc M) (p : L.Perm M) : L = M :=
  List.Perm.eq_of_pairwise (le := (· ≤ ·)) (fun a b _ _ h1 h2 => Nat.le_antisymm h1 h2) (a.imp fun z => Nat.le_of_lt z) (b.imp fun z => Nat.le_of_lt z) p
theorem std_of {n d : Nat} (h6 : n ≤ 60) (h1 : 1 ≤ n) (hd : d ≤ n) (q : Nat) (hq : 0 < q) : Std n d (leastL n d * q) := ⟨h6, h1, hd, Nat.mul_pos (leastL_pos hd) hq, ⟨q, rfl⟩⟩
/-! what stands outside a set, and the places in it -/
theorem below_at : ∀ {M : List Nat}, Asc M → ∀ {j s : Nat}, M[j]? = some s → (M.filter fun x => decide (x < s)).length = j
  | [], _, _, _, h => by cases h
  | y :: M, a, 0, s, h => by
    obtain rfl : y = s := Option.some.inj h
    rw [List.filter_cons_of_neg (by simp), List.filter_eq_nil_iff.mpr]
    · rfl
    · intro x hx
      have := (List.pairwise_cons.mp a).1 x hx
      simp
      omega
  | y :: M, a, j + 1, s, h => by
    have h1 : M[j]? = some s := h
    have h2 := (List.pairwise_cons.mp a).1 s (List.mem_of_getElem? h1)
    rw [List.filter_cons_of_pos (by simpa using h2)]
    exact congrArg (· + 1) (below_at (List.pairwise_cons.mp a).2 h1)
/-- L: the servers outside I, ascending -/
structure Compl (n : Nat) (I L : List Nat) : Prop where
  aI : Asc I
  aL : Asc L
  bI : ∀ x ∈ I, x < n
  mem : ∀ x, x ∈ L ↔ x < n ∧ x ∉ I
theorem Compl.count {n : Nat} {I L : List Nat} (h : Compl n I L) {i s : Nat} (e : L[i]? = some s) : (I.filter fun x => decide (x < s)).length + i = s := by
  have hs := (h.mem s).mp (List.mem_of_getElem? e)
  have p : ((I.filter fun x => decide (x < s)) ++ (L.filter fun x => decide (x < s))).Perm (List.range' 0 s) := by
    refine (List.perm_ext_iff_of_nodup ?_ (asc_nodup (asc_range' s 0))).mpr fun x => ?_
    · refine List.nodup_append.mpr ⟨(asc_nodup h.aI).filter _, (asc_nodup h.aL).filter _, fun x hx y hy e2 => ?_⟩
      subst e2
      exact ((h.mem x).mp (List.mem_filter.mp hy).1).2 (List.mem_filter.mp hx).1
    · rw [List.mem_append, List.mem_filter, List.mem_filter, mem_range0, h.mem]
      simp only [decide_eq_true_eq]
      constructor
      · rintro (⟨_, h⟩ | ⟨_, h⟩) <;> exact h
      · intro hx
        by_cases c : x ∈ I
        · exact .inl ⟨c, hx⟩
        · exact .inr ⟨⟨by omega, c⟩, hx⟩
  have l := p.length_eq
  rw [List.length_append, below_at h.aL e, List.length_range'] at l
  exact l
theorem Compl.start (n : Nat) : Compl n [] (List.range' 0 n) := ⟨List.Pairwise.nil, asc_range' n 0, fun x hx => absurd hx List.not_mem_nil, fun x => by rw [mem_range0]; simp⟩
theorem Compl.next {n : Nat} {I L I' : List Nat} (h : Compl n I L) {i s : Nat} (e : L[i]? = some s) (hp : I'.Perm (I ++ [s])) (ha : Asc I') : Compl n I' (L.eraseIdx i) := by
  have hs := (h.mem s).mp (List.mem_of_getElem? e)
  refine ⟨ha, asc_erase h.aL i, fun x hx => ?_, fun x => ?_⟩
  · rcases List.mem_append.mp (hp.mem_iff.mp hx) with hx | hx
    · exact h.bI x hx
    · rw [List.mem_singleton.mp hx]
      exact hs.1
  · constructor
    · intro hx
      have h1 := (h.mem x).mp (List.mem_of_mem_eraseIdx hx)
      refine ⟨h1.1, fun hx2 => ?_⟩
      rcases List.mem_append.mp (hp.mem_iff.mp hx2) with z | z
      · exact h1.2 z
      · rw [List.mem_singleton.mp z] at hx
        exact not_mem_erase (asc_nodup h.aL) e hx
    · rintro ⟨h1, h2⟩
      have h3 : x ∉ I := fun z => h2 (hp.mem_iff.mpr (List.mem_append_left _ z))
      have h4 : x ≠ s := fun z => h2 (hp.mem_iff.mpr (List.mem_append_right _ (by rw [z]; exact List.mem_singleton_self s)))
      obtain ⟨k, hk⟩ := List.getElem?_of_mem ((h.mem x).mpr ⟨h1, h3⟩)
      have hki : k ≠ i := fun z => by
        rw [z, e] at hk
        exact h4 (Option.some.inj hk).symm
      rcases Nat.lt_or_gt_of_ne hki with hlt | hgt
      · exact List.mem_of_getElem? (i := k) (by rw [List.getElem?_eraseIdx, if_pos hlt]; exact hk)
      · exact List.mem_of_getElem? (i := k - 1) (by rw [List.getElem?_eraseIdx, if_neg (by omega), show k - 1 + 1 = k by omega]; exact hk)
/-- the place of the new one -/
theorem Compl.index {n : Nat} {I L I' : List Nat} (h : Compl n I L) {i j s : Nat} (e : L[i]? = some s) (hp : I'.Perm (I ++ [s])) (ha : Asc I') (hj : I'[j]? = some s) : j + i = s := by
  have h1 := h.count e
  have h2 := below_at ha hj
  have h3 := (hp.filter fun x => decide (x < s)).length_eq
  rw [List.filter_append, List.length_append] at h3
  have h4 : (List.filter (fun x => decide (x < s)) [s]).length = 0 := by
    rw [List.filter_cons_of_neg (by simp)]
    rfl
  omega
theorem Compl.free {n : Nat} {I L : List Nat} (h : Compl n I L) : (List.range' 0 n).filter (fun x => !decide (x ∈ I)) = L := by
  have a1 : Asc ((List.range' 0 n).filter (fun x => !decide (x ∈ I))) := (asc_range' n 0).filter _
  refine List.Perm.eq_of_pairwise (le := (· ≤ ·)) (fun a b _ _ h1 h2 => Nat.le_antisymm h1 h2) (a1.imp fun z => Nat.le_of_lt z) (h.aL.imp fun z => Nat.le_of_lt z) ?_
  refine (List.perm_ext_iff_of_nodup (asc_nodup a1) (asc_nodup h.aL)).mpr fun x => ?_
  rw [List.mem_filter, mem_range0, h.mem]
  simp
end Ef
namespace Ef
/-! ### the least numbers once more: common multiples of n, n - 1, .. -/
def leastP (n : Nat) : Nat → Nat
  | 0 => 1
  | d + 1 => stepL (leastP n d) (n - d)
theorem parts_ok : rowsOk (fun n d a => Nat.beq (leastP n d) a) 60 1 row0 = true := by decide +kernel
theorem leastP_eq {n d : Nat} (h1 : 1 ≤ n) (h6 : n ≤ 60) (hd : d ≤ n) : leastP n d = leastL n d :=
  Nat.eq_of_beq_eq_true (rows_all 60 1 row0 row0_is (by decide) parts_ok n h1 (by omega) h6 d hd)
theorem stepL_lcm (a b : Nat) : stepL a b = Nat.lcm a b := by
  unfold stepL Nat.lcm
  exact Nat.div_mul_right_comm (Nat.gcd_dvd_left a b) b
theorem stepL_dvd (a b c : Nat) : stepL a b ∣ c ↔ a ∣ c ∧ b ∣ c := by
  rw [stepL_lcm]
  exact ⟨fun h => ⟨Nat.dvd_trans (Nat.dvd_lcm_left a b) h, Nat.dvd_trans (Nat.dvd_lcm_right a b) h⟩, fun h => Nat.lcm_dvd h.1 h.2⟩
theorem leastP_dvd (n c : Nat) : ∀ d, leastP n d ∣ c ↔ ∀ i, i < d → (n - i) ∣ c
  | 0 => ⟨fun _ i h => absurd h (Nat.not_lt_zero i), fun _ => Nat.one_dvd c⟩
  | d + 1 => by
    show stepL (leastP n d) (n - d) ∣ c ↔ _
    rw [stepL_dvd, leastP_dvd n c d]
    constructor
    · intro h i hi
      by_cases e : i = d
      · rw [e]
        exact h.2
      · exact h.1 i (by omega)
    · intro h
      exact ⟨fun i hi => h i (by omega), h d (by omega)⟩
/-- a number is a multiple of the least one exactly if n, n - 1, .. divide it -/
theorem least_parts {n d : Nat} (h1 : 1 ≤ n) (h6 : n ≤ 60) (hd : d ≤ n) (c : Nat) : leastL n d ∣ c ↔ ∀ i, i < d → (n - i) ∣ c := by
  rw [← leastP_eq h1 h6 hd]
  exact leastP_dvd n c d
def partsV (n d : Nat) : List Nat := (List.range d).map fun i => n - i
theorem parts_at {n d i : Nat} (h : i < d) : (partsV n d)[i]? = some (n - i) := by
  unfold partsV
  rw [List.getElem?_map, List.getElem?_range h]
  rfl
theorem parts_len (n d : Nat) : (partsV n d).length = d := by
  unfold partsV
  rw [List.length_map, List.length_range]
def wdsL (n c d : Nat) : List Nat := (List.range d).map (wd n c)
theorem wds_step (n c d : Nat) : wdsL n c (d + 1) = wdsL n c d ++ [wd n c d] := by
  unfold wdsL
  rw [List.range_succ, List.map_append]
  rfl
theorem wds_len (n c d : Nat) : (wdsL n c d).length = d := by
  unfold wdsL
  rw [List.length_map, List.length_range]
/-- one step of the edges -/
theorem edge_step {n s : Nat} (h : s < n) : n * C (n - 1) s * (n - 1 - s) / (s + 1) = n * C (n - 1) (s + 1) := by
  rw [Nat.mul_assoc, ← C_step (n - 1) s (by omega), ← Nat.mul_assoc, Nat.mul_div_cancel _ (Nat.succ_pos s)]
end Ef
namespace Ef
/-! ### from a place back to a number -/
/-- what is left of the servers -/
def folL (n c : Nat) : List Nat → List Nat → Nat → List Nat
  | [], L, _ => L
  | s :: ss, L, r => folL n c ss (L.eraseIdx (r / wd n c s)) (wd n c s * (L.getD (r / wd n c s) 0 - r / wd n c s) + r % wd n c s)
theorem fol_snoc (n c : Nat) (s : Nat) : ∀ (ss L : List Nat) (r : Nat), fol n c (ss ++ [s]) L r =
    ((fol n c ss L r).1 ++ [(folL n c ss L r).getD ((fol n c ss L r).2 / wd n c s) 0],
      wd n c s * ((folL n c ss L r).getD ((fol n c ss L r).2 / wd n c s) 0 - (fol n c ss L r).2 / wd n c s) + (fol n c ss L r).2 % wd n c s)
  | [], L, r => rfl
  | t :: ss, L, r => by
    rw [List.cons_append, fol_cons, fol_snoc n c s ss, fol_cons]
    rfl
theorem folL_snoc (n c : Nat) (s : Nat) : ∀ (ss L : List Nat) (r : Nat), folL n c (ss ++ [s]) L r = (folL n c ss L r).eraseIdx ((fol n c ss L r).2 / wd n c s)
  | [], L, r => rfl
  | t :: ss, L, r => by
    rw [List.cons_append]
    show folL n c (ss ++ [s]) _ _ = _
    rw [folL_snoc n c s ss]
    rfl
theorem wd_back {n c b : Nat} (h : n * C (n - 1) b ∣ c) (hb : b < n) : c / C n (b + 1) = wd n c b * (b + 1) := by
  have e := wd_eq h
  obtain ⟨m, rfl⟩ : ∃ m, n = m + 1 := ⟨n - 1, by omega⟩
  have a := C_absorb m b
  rw [Nat.add_sub_cancel] at e
  rw [← a] at e
  have p := C_pos (m + 1) (b + 1) (by omega)
  generalize wd (m + 1) c b = w at e ⊢
  have e2 : c = w * (b + 1) * C (m + 1) (b + 1) := by
    rw [← e, Nat.mul_comm (C (m + 1) (b + 1)), Nat.mul_assoc]
  rw [e2, Nat.mul_div_cancel _ p]
theorem wd_out {n c b : Nat} (h : n * C (n - 1) b ∣ c) (hb : b < n) : wd n c b * (n - b) * C n b = c := by
  have e := wd_eq h
  obtain ⟨m, rfl⟩ : ∃ m, n = m + 1 := ⟨n - 1, by omega⟩
  have a := C_absorb m b
  have s := C_step (m + 1) b (by omega)
  rw [Nat.add_sub_cancel] at e
  rw [Nat.mul_assoc, Nat.mul_comm (m + 1 - b), ← s, a]
  exact e
theorem erasePerm : ∀ (l : List Nat) (k x : Nat), l[k]? = some x → (x :: l.eraseIdx k).Perm l
  | [], _, _, h => by cases h
  | a :: r, 0, x, h => by
    obtain rfl : a = x := Option.some.inj h
    exact List.Perm.refl _
  | a :: r, k + 1, x, h => (List.Perm.swap a x _).trans ((erasePerm r k x h).cons a)
theorem range'_end (b : Nat) : List.range' 0 (b + 1) = List.range' 0 b ++ [b] := by
  rw [← List.range_eq_range', ← List.range_eq_range', List.range_succ]
theorem rev_range (b : Nat) : (List.range' 0 (b + 1)).reverse = b :: (List.range' 0 b).reverse := by
  rw [range'_end, List.reverse_append]
  rfl
/-- one step back -/
structure Place (n c b : Nat) (ms : List Nat) (r : Nat) : Prop where
  asc : Asc ms
  lt : ∀ x ∈ ms, x < n
  len : ms.length = b
  rest : r < c / C n b
theorem Place.ix {n c b r : Nat} {ms : List Nat} (h : Place n c (b + 1) ms r) (hd : n * C (n - 1) b ∣ c) (hb : b < n) : r / wd n c b < ms.length := by
  have h1 := h.rest
  rw [wd_back hd hb] at h1
  rw [h.len]
  exact Nat.div_lt_of_lt_mul h1
theorem Place.prev {n c b r : Nat} {ms : List Nat} (h : Place n c (b + 1) ms r) (hd : ∀ k, k ≤ b → n * C (n - 1) k ∣ c) (hb : b < n) (hc : 0 < c) :
    Place n c b (ms.eraseIdx (r / wd n c b)) (wd n c b * (ms.getD (r / wd n c b) 0 - r / wd n c b) + r % wd n c b) := by
  have hi := h.ix (hd b (Nat.le_refl _)) hb
  have w0 := wd_pos (hd b (Nat.le_refl _)) hc
  have hx := getD_of hi
  have g1 := asc_ge h.asc hx
  have g2 := asc_le h.asc h.lt hx
  have hl := h.len
  refine ⟨asc_erase h.asc _, fun x hx => h.lt x (List.mem_of_mem_eraseIdx hx), ?_, ?_⟩
  · rw [List.length_eraseIdx, if_pos hi, hl]
    rfl
  · have h1 : r % wd n c b < wd n c b := Nat.mod_lt _ w0
    have h2 : ms.getD (r / wd n c b) 0 - r / wd n c b + 1 ≤ n - b := by omega
    have h3 : wd n c b * (ms.getD (r / wd n c b) 0 - r / wd n c b + 1) ≤ wd n c b * (n - b) := Nat.mul_le_mul_left _ h2
    have h4 : c / C n b = wd n c b * (n - b) := by
      have e := wd_out (hd b (Nat.le_refl _)) hb
      have p := C_pos n b (by omega)
      conv => lhs; rw [← e]
      exact Nat.mul_div_cancel _ p
    rw [h4]
    rw [Nat.mul_add, Nat.mul_one] at h3
    omega
theorem back_ok {n c : Nat} (hc : 0 < c) : ∀ (b : Nat) (ms : List Nat) (r : Nat), b ≤ n → (∀ k, k < b → n * C (n - 1) k ∣ c) → Place n c b ms r → FolOk n c (List.range' 0 b).reverse ms r
  | 0, _, _, _, _, _ => trivial
  | b + 1, ms, r, hb, hd, h => by
    rw [rev_range]
    have hi := h.ix (hd b (by omega)) (by omega)
    exact ⟨wd_pos (hd b (by omega)) hc, hi, asc_ge h.asc (getD_of hi), back_ok hc b _ _ (by omega) (fun k hk => hd k (by omega)) (h.prev (fun k hk => hd k (by omega)) (by omega) hc)⟩
theorem Std.less {n d c : Nat} (h : Std n (d + 1) c) : Std n d c := by
  have hd := h.dn
  exact ⟨h.n60, h.n1, by omega, h.c0, Nat.dvd_trans (stepL_left _ _ (leastL_pos (by omega))) h.dv⟩
/-- the number of the list that has this place -/
def back (n c : Nat) (ms : List Nat) (r : Nat) : Nat := (fol n c (List.range' 0 ms.length).reverse ms r).2
theorem back_fwd {n c : Nat} (hc : 0 < c) : ∀ (b : Nat) (ms : List Nat) (r : Nat), b ≤ n → (∀ k, k < b → n * C (n - 1) k ∣ c) → Place n c b ms r →
    (fol n c (List.range' 0 b).reverse ms r).2 < c ∧
    (fol n c (List.range' 0 b) (List.range' 0 n) (fol n c (List.range' 0 b).reverse ms r).2).1.Perm ms ∧
    (fol n c (List.range' 0 b) (List.range' 0 n) (fol n c (List.range' 0 b).reverse ms r).2).2 = r ∧
    Compl n ms (folL n c (List.range' 0 b) (List.range' 0 n) (fol n c (List.range' 0 b).reverse ms r).2)
  | 0, ms, r, _, _, h => by
    have e : ms = [] := List.length_eq_zero_iff.mp h.len
    have hr := h.rest
    rw [C_zero, Nat.div_one] at hr
    subst e
    exact ⟨hr, List.Perm.refl _, rfl, Compl.start n⟩
  | b + 1, ms, r, hb, hd, h => by
    have hi := h.ix (hd b (by omega)) (by omega)
    have w0 := wd_pos (hd b (by omega)) hc
    have hx := getD_of hi
    have g1 := asc_ge h.asc hx
    have pv := h.prev (fun k hk => hd k (by omega)) (by omega) hc
    obtain ⟨i1, i2, i3, i4⟩ := back_fwd hc b _ _ (by omega) (fun k hk => hd k (by omega)) pv
    rw [rev_range, fol_cons]
    show (fol n c (List.range' 0 b).reverse (ms.eraseIdx (r / wd n c b)) (wd n c b * (ms.getD (r / wd n c b) 0 - r / wd n c b) + r % wd n c b)).2 < c ∧ _
    generalize (fol n c (List.range' 0 b).reverse (ms.eraseIdx (r / wd n c b)) (wd n c b * (ms.getD (r / wd n c b) 0 - r / wd n c b) + r % wd n c b)).2 = k at i1 i2 i3 i4 ⊢
    show k < c ∧ (fol n c (List.range' 0 (b + 1)) (List.range' 0 n) k).1.Perm ms ∧ (fol n c (List.range' 0 (b + 1)) (List.range' 0 n) k).2 = r ∧ Compl n ms (folL n c (List.range' 0 (b + 1)) (List.range' 0 n) k)
    rw [range'_end, fol_snoc, folL_snoc, i3]
    have hm : r % wd n c b < wd n c b := Nat.mod_lt _ w0
    have e1 : (wd n c b * (ms.getD (r / wd n c b) 0 - r / wd n c b) + r % wd n c b) / wd n c b = ms.getD (r / wd n c b) 0 - r / wd n c b := by
      rw [Nat.mul_add_div w0, Nat.div_eq_of_lt hm, Nat.add_zero]
    have e2 : (wd n c b * (ms.getD (r / wd n c b) 0 - r / wd n c b) + r % wd n c b) % wd n c b = r % wd n c b := by
      rw [Nat.mul_add_mod, Nat.mod_mod]
    rw [e1, e2]
    generalize folL n c (List.range' 0 b) (List.range' 0 n) k = L at i4
    have hdm := Nat.div_add_mod r (wd n c b)
    generalize r / wd n c b = i at hi hx g1 pv i1 i2 i3 i4 hdm e1 e2 ⊢
    generalize ms.getD i 0 = x at hx g1 pv i1 i2 i3 i4 e1 e2 ⊢
    have pm : ms.Perm (ms.eraseIdx i ++ [x]) := ((List.perm_append_singleton x _).trans (erasePerm ms i x hx)).symm
    have hmem : x ∈ L := (i4.mem _).mpr ⟨h.lt _ (List.mem_of_getElem? hx), not_mem_erase (asc_nodup h.asc) hx⟩
    obtain ⟨j, hj⟩ := List.getElem?_of_mem hmem
    have hjx := i4.index hj pm h.asc hx
    obtain rfl : x - i = j := by omega
    have ex : L.getD (x - i) 0 = x := by
      have := getD_of (L := L) (i := x - i) (List.getElem?_eq_some_iff.mp hj).1
      rw [hj] at this
      exact (Option.some.inj this).symm
    rw [ex]
    refine ⟨i1, (i2.append_right _).trans pm.symm, ?_, i4.next hj pm h.asc⟩
    show wd n c b * (x - (x - i)) + r % wd n c b = r
    rw [show x - (x - i) = i by omega]
    exact hdm
end Ef
namespace Ef
/-! ### the numbers of the lists with a beginning -/
/-- what 'numbers_with' keeps on its way: the numbers from lo to hi - 1 have the beginning, the rest of number k is k + mv, L is left -/
structure Wst where
  lo : Int
  hi : Int
  mv : Int
  L : List Nat
def wStep (n c b s : Nat) (x : Wst) : Wst :=
  ⟨max x.lo ((wd n c b : Int) * (x.L.idxOf s : Int) - x.mv), min x.hi ((wd n c b : Int) * ((x.L.idxOf s : Int) + 1) - x.mv), x.mv + (wd n c b : Int) * ((s : Int) - (x.L.idxOf s : Int) - (x.L.idxOf s : Int)), x.L.eraseIdx (x.L.idxOf s)⟩
/-- from level b on -/
def wRun (n c : Nat) : Nat → List Nat → Wst → Option Wst
  | _, [], x => some x
  | b, s :: r, x => if s ∈ x.L then (if (wStep n c b s x).hi ≤ (wStep n c b s x).lo then none else wRun n c (b + 1) r (wStep n c b s x)) else none
/-- the lists whose beginning is t, in the table of depth b -/
structure Beg (n c : Nat) (t : List Nat) (x : Wst) : Prop where
  nd : x.L.Nodup
  asc : Asc x.L
  lo0 : 0 ≤ x.lo
  hic : x.hi ≤ (c : Int)
  iff : ∀ k : Nat, k < c → ((fol n c (List.range' 0 t.length) (List.range' 0 n) k).1 = t ↔ x.lo ≤ (k : Int) ∧ (k : Int) < x.hi)
  rest : ∀ k : Nat, x.lo ≤ (k : Int) → (k : Int) < x.hi → ((fol n c (List.range' 0 t.length) (List.range' 0 n) k).2 : Int) = (k : Int) + x.mv ∧ folL n c (List.range' 0 t.length) (List.range' 0 n) k = x.L
  len : x.L.length = n - t.length
  lt : ∀ y ∈ x.L, y < n
  mem : ∀ z, z ∈ x.L ↔ z < n ∧ z ∉ t
theorem Beg.start (n c : Nat) : Beg n c [] ⟨0, (c : Int), 0, List.range' 0 n⟩ :=
  ⟨asc_nodup (asc_range' n 0), asc_range' n 0, Int.le_refl _, Int.le_refl _, fun k hk => ⟨fun _ => ⟨by show (0 : Int) ≤ _; omega, by show (k : Int) < (c : Int); omega⟩, fun _ => rfl⟩, fun k h1 h2 => ⟨by show (k : Int) = (k : Int) + 0; omega, rfl⟩, by rw [List.length_range']; rfl, fun y hy => mem_range0.mp hy, fun z => by rw [mem_range0]; simp⟩
theorem mem_erase_iff {L : List Nat} {i s : Nat} (nd : L.Nodup) (e : L[i]? = some s) (z : Nat) : z ∈ L.eraseIdx i ↔ z ∈ L ∧ z ≠ s := by
  have pm := erasePerm L i s e
  constructor
  · intro h
    refine ⟨List.mem_of_mem_eraseIdx h, fun c => ?_⟩
    rw [c] at h
    exact not_mem_erase nd e h
  · rintro ⟨h1, h2⟩
    rcases List.mem_cons.mp (pm.mem_iff.mpr h1) with h | h
    · exact absurd h h2
    · exact h
theorem idx_at {L : List Nat} {s : Nat} (h : s ∈ L) : L[L.idxOf s]? = some s := by
  rw [List.getElem?_eq_getElem (List.idxOf_lt_length_of_mem h), List.getElem_idxOf]
theorem div_block {w r i : Nat} (w0 : 0 < w) : r / w = i ↔ w * i ≤ r ∧ r < w * (i + 1) := by
  rw [Nat.div_eq_iff w0]
  rw [Nat.mul_comm i w]
  constructor
  · rintro ⟨h1, h2⟩
    rw [Nat.mul_add, Nat.mul_one]
    exact ⟨h1, by omega⟩
  · rintro ⟨h1, h2⟩
    rw [Nat.mul_add, Nat.mul_one] at h2
    exact ⟨h1, by omega⟩
/-- the rest stays within its bounds, on every way -/
theorem fwd_bound {n c d : Nat} (hd : ∀ b, b < d → n * C (n - 1) b ∣ c) (hc : 0 < c) (hdn : d ≤ n) {k : Nat} (hk : k < c) : ∀ b, b ≤ d →
    (folL n c (List.range' 0 b) (List.range' 0 n) k).length = n - b ∧ Asc (folL n c (List.range' 0 b) (List.range' 0 n) k) ∧ (∀ y ∈ folL n c (List.range' 0 b) (List.range' 0 n) k, y < n) ∧ (fol n c (List.range' 0 b) (List.range' 0 n) k).2 < c / C n b
  | 0, _ => ⟨by show (List.range' 0 n).length = n; rw [List.length_range'], asc_range' n 0, fun y hy => mem_range0.mp hy, by rw [C_zero, Nat.div_one]; exact hk⟩
  | b + 1, h => by
    obtain ⟨h1, h2, h3, h4⟩ := fwd_bound hd hc hdn hk b (by omega)
    have dv := hd b (by omega)
    have w0 := wd_pos dv hc
    have e := wd_out dv (show b < n by omega)
    have p := C_pos n b (by omega)
    have h5 : c / C n b = wd n c b * (n - b) := by
      conv => lhs; rw [← e]
      exact Nat.mul_div_cancel _ p
    rw [h5] at h4
    rw [range'_end, folL_snoc, fol_snoc]
    have hi : (fol n c (List.range' 0 b) (List.range' 0 n) k).2 / wd n c b < (folL n c (List.range' 0 b) (List.range' 0 n) k).length := by
      rw [h1]
      exact Nat.div_lt_of_lt_mul h4
    have hm : (fol n c (List.range' 0 b) (List.range' 0 n) k).2 % wd n c b < wd n c b := Nat.mod_lt _ w0
    have hx := getD_of hi
    have g2 := asc_le h2 h3 hx
    refine ⟨?_, asc_erase h2 _, fun y hy => h3 y (List.mem_of_mem_eraseIdx hy), ?_⟩
    · rw [List.length_eraseIdx, if_pos hi]
      omega
    · rw [wd_back dv (by omega)]
      show wd n c b * _ + _ < _
      have h6 : (folL n c (List.range' 0 b) (List.range' 0 n) k).getD ((fol n c (List.range' 0 b) (List.range' 0 n) k).2 / wd n c b) 0 - (fol n c (List.range' 0 b) (List.range' 0 n) k).2 / wd n c b ≤ b := by omega
      have h7 := Nat.mul_le_mul_left (wd n c b) h6
      rw [Nat.mul_add, Nat.mul_one]
      omega
theorem Beg.step {n c d : Nat} {t : List Nat} {x : Wst} (h : Beg n c t x) (hd : ∀ b, b < d → n * C (n - 1) b ∣ c) (hc : 0 < c) (hdn : d ≤ n) (hb : t.length < d) {s : Nat} (hs : s ∈ x.L) : Beg n c (t ++ [s]) (wStep n c t.length s x) := by
  have dv := hd t.length hb
  have w0 := wd_pos dv hc
  have hix := idx_at hs
  have hil := List.idxOf_lt_length_of_mem hs
  have his := asc_ge h.asc hix
  have ea : (t ++ [s]).length = t.length + 1 := by rw [List.length_append]; rfl
  have e := wd_out dv (show t.length < n by omega)
  have p := C_pos n t.length (by omega)
  have h5 : c / C n t.length = wd n c t.length * (n - t.length) := by
    conv => lhs; rw [← e]
    exact Nat.mul_div_cancel _ p
  -- where the rest lies
  have key : ∀ k : Nat, k < c → x.lo ≤ (k : Int) → (k : Int) < x.hi → ((fol n c (List.range' 0 t.length) (List.range' 0 n) k).2 / wd n c t.length = x.L.idxOf s ↔ (wd n c t.length : Int) * (x.L.idxOf s : Int) - x.mv ≤ (k : Int) ∧ (k : Int) < (wd n c t.length : Int) * ((x.L.idxOf s : Int) + 1) - x.mv) := by
    intro k hk h1 h2
    obtain ⟨r1, _⟩ := h.rest k h1 h2
    rw [div_block w0]
    have c1 : ((wd n c t.length * x.L.idxOf s : Nat) : Int) = (wd n c t.length : Int) * (x.L.idxOf s : Int) := Int.natCast_mul _ _
    have c2 : ((wd n c t.length * (x.L.idxOf s + 1) : Nat) : Int) = (wd n c t.length : Int) * ((x.L.idxOf s : Int) + 1) := Int.natCast_mul _ _
    constructor
    · rintro ⟨a, b⟩
      exact ⟨by omega, by omega⟩
    · rintro ⟨a, b⟩
      exact ⟨by omega, by omega⟩
  have got : ∀ k : Nat, k < c → x.lo ≤ (k : Int) → (k : Int) < x.hi → ((folL n c (List.range' 0 t.length) (List.range' 0 n) k).getD ((fol n c (List.range' 0 t.length) (List.range' 0 n) k).2 / wd n c t.length) 0 = s ↔ (fol n c (List.range' 0 t.length) (List.range' 0 n) k).2 / wd n c t.length = x.L.idxOf s) := by
    intro k hk h1 h2
    obtain ⟨r1, r2⟩ := h.rest k h1 h2
    obtain ⟨b1, _, _, b4⟩ := fwd_bound hd hc hdn hk t.length (by omega)
    rw [h5] at b4
    have hi : (fol n c (List.range' 0 t.length) (List.range' 0 n) k).2 / wd n c t.length < x.L.length := by
      rw [h.len]
      exact Nat.div_lt_of_lt_mul b4
    rw [r2]
    constructor
    · intro z
      have h8 := getD_of hi
      rw [z] at h8
      exact nodup_inj h.nd h8 hix
    · intro z
      rw [z]
      have h8 := getD_of hil
      rw [hix] at h8
      exact (Option.some.inj h8).symm
  refine ⟨h.nd.sublist (List.eraseIdx_sublist _ _), asc_erase h.asc _, ?_, ?_, fun k hk => ?_, fun k h1 h2 => ?_, ?_, fun y hy => h.lt y (List.mem_of_mem_eraseIdx hy), fun z => ?_⟩
  · have := h.lo0
    show 0 ≤ max x.lo _
    omega
  · have := h.hic
    show min x.hi _ ≤ _
    omega
  · rw [ea, range'_end, fol_snoc]
    show _ ++ [_] = t ++ [s] ↔ max x.lo _ ≤ (k : Int) ∧ (k : Int) < min x.hi _
    constructor
    · intro z
      obtain ⟨z1, z2⟩ := List.append_inj' z rfl
      obtain ⟨a, b⟩ := (h.iff k hk).mp z1
      have z3 := (got k hk a b).mp (List.singleton_inj.mp z2)
      have z4 := (key k hk a b).mp z3
      omega
    · intro z
      have a : x.lo ≤ (k : Int) ∧ (k : Int) < x.hi := by omega
      have z3 := (key k hk a.1 a.2).mpr (by omega)
      have z4 := (got k hk a.1 a.2).mpr z3
      rw [(h.iff k hk).mpr a, z4]
  · have h1' : max x.lo ((wd n c t.length : Int) * (x.L.idxOf s : Int) - x.mv) ≤ (k : Int) := h1
    have h2' : (k : Int) < min x.hi ((wd n c t.length : Int) * ((x.L.idxOf s : Int) + 1) - x.mv) := h2
    have a : x.lo ≤ (k : Int) ∧ (k : Int) < x.hi := by omega
    have hk : k < c := by
      have := h.hic
      omega
    have z3 := (key k hk a.1 a.2).mpr (by omega)
    have z4 := (got k hk a.1 a.2).mpr z3
    obtain ⟨r1, r2⟩ := h.rest k a.1 a.2
    rw [ea, range'_end, fol_snoc, folL_snoc, z3, r2]
    rw [z3, r2] at z4
    refine ⟨?_, rfl⟩
    show ((wd n c t.length * (x.L.getD (x.L.idxOf s) 0 - x.L.idxOf s) + (fol n c (List.range' 0 t.length) (List.range' 0 n) k).2 % wd n c t.length : Nat) : Int) = (k : Int) + (x.mv + (wd n c t.length : Int) * ((s : Int) - (x.L.idxOf s : Int) - (x.L.idxOf s : Int)))
    rw [z4]
    have dm := Nat.div_add_mod (fol n c (List.range' 0 t.length) (List.range' 0 n) k).2 (wd n c t.length)
    rw [z3] at dm
    generalize (fol n c (List.range' 0 t.length) (List.range' 0 n) k).2 % wd n c t.length = u at dm
    generalize x.L.idxOf s = i at *
    generalize wd n c t.length = w at *
    rw [Int.natCast_add, Int.natCast_mul, Int.natCast_sub his]
    have dm2 : (w : Int) * (i : Int) + (u : Int) = (k : Int) + x.mv := by
      rw [← r1, ← dm, Int.natCast_add, Int.natCast_mul]
    rw [Int.mul_sub, Int.mul_sub, Int.mul_sub]
    omega
  · rw [ea]
    show (x.L.eraseIdx _).length = _
    rw [List.length_eraseIdx, if_pos hil, h.len]
    omega
  · show z ∈ x.L.eraseIdx _ ↔ _
    rw [mem_erase_iff h.nd hix, h.mem, List.mem_append, List.mem_singleton]
    constructor
    · rintro ⟨⟨a, b⟩, e⟩
      exact ⟨a, fun q => q.elim b e⟩
    · rintro ⟨a, b⟩
      exact ⟨⟨a, fun q => b (.inl q)⟩, fun q => b (.inr q)⟩
theorem fol_take (n c k : Nat) (b : Nat) : ∀ m : Nat, (fol n c (List.range' 0 (b + m)) (List.range' 0 n) k).1.take b = (fol n c (List.range' 0 b) (List.range' 0 n) k).1
  | 0 => by
    have := fol_len n c (List.range' 0 b) (List.range' 0 n) k
    rw [List.length_range'] at this
    exact List.take_of_length_le (by rw [Nat.add_zero]; omega)
  | m + 1 => by
    rw [show b + (m + 1) = b + m + 1 from rfl, range'_end, fol_snoc]
    have := fol_len n c (List.range' 0 (b + m)) (List.range' 0 n) k
    rw [List.length_range'] at this
    show (_ ++ [_]).take b = _
    rw [List.take_append_of_le_length (by omega)]
    exact fol_take n c k b m
theorem wRun_some {n c d : Nat} (hd : ∀ b, b < d → n * C (n - 1) b ∣ c) (hc : 0 < c) (hdn : d ≤ n) {k : Nat} (hk : k < c) : ∀ (r t : List Nat) (x : Wst), t.length + r.length ≤ d → Beg n c t x → (fol n c (List.range' 0 (t.length + r.length)) (List.range' 0 n) k).1 = t ++ r → ∃ y, wRun n c t.length r x = some y ∧ Beg n c (t ++ r) y
  | [], t, x, _, h, _ => ⟨x, rfl, by rw [List.append_nil]; exact h⟩
  | s :: r, t, x, hl, h, he => by
    have el : (s :: r).length = r.length + 1 := rfl
    have e1 : (fol n c (List.range' 0 t.length) (List.range' 0 n) k).1 = t := by
      have := fol_take n c k t.length (s :: r).length
      rw [he, List.take_left] at this
      exact this.symm
    have ea : (t ++ [s]).length = t.length + 1 := by rw [List.length_append]; rfl
    have e2 : (fol n c (List.range' 0 (t.length + 1)) (List.range' 0 n) k).1 = t ++ [s] := by
      have := fol_take n c k (t.length + 1) r.length
      rw [show t.length + 1 + r.length = t.length + (s :: r).length by omega, he] at this
      rw [← this, show t ++ s :: r = (t ++ [s]) ++ r by simp, ← ea, List.take_left]
    have in1 := (h.iff k hk).mp e1
    obtain ⟨r1, r2⟩ := h.rest k in1.1 in1.2
    have dv := hd t.length (by omega)
    have w0 := wd_pos dv hc
    obtain ⟨b1, b2, b3, b4⟩ := fwd_bound hd hc hdn hk t.length (by omega)
    have hs : s ∈ x.L := by
      have e3 := e2
      rw [range'_end, fol_snoc] at e3
      obtain ⟨_, z2⟩ := List.append_inj' e3 rfl
      have z3 := List.singleton_inj.mp z2
      rw [← r2, ← z3]
      refine List.mem_of_getElem? (getD_of ?_)
      rw [b1]
      have e := wd_out dv (show t.length < n by omega)
      have p := C_pos n t.length (by omega)
      have h5 : c / C n t.length = wd n c t.length * (n - t.length) := by
        conv => lhs; rw [← e]
        exact Nat.mul_div_cancel _ p
      rw [h5] at b4
      exact Nat.div_lt_of_lt_mul b4
    have st := h.step hd hc hdn (by omega) hs
    have in2 := (st.iff k hk).mp (by rw [ea]; exact e2)
    obtain ⟨y, y1, y2⟩ := wRun_some hd hc hdn hk r (t ++ [s]) _ (by rw [ea]; omega) st (by rw [ea, show t.length + 1 + r.length = t.length + (s :: r).length by omega, he]; simp)
    refine ⟨y, ?_, by rw [show t ++ s :: r = (t ++ [s]) ++ r by simp]; exact y2⟩
    show (if s ∈ x.L then _ else none) = _
    rw [if_pos hs, if_neg (by omega)]
    rw [ea] at y1
    exact y1
theorem wRun_snoc (n c s : Nat) : ∀ (r : List Nat) (b : Nat) (x : Wst), wRun n c b (r ++ [s]) x = (wRun n c b r x).bind fun y => wRun n c (b + r.length) [s] y
  | [], b, x => rfl
  | u :: r, b, x => by
    show (if u ∈ x.L then _ else none) = Option.bind (if u ∈ x.L then _ else none) _
    by_cases h1 : u ∈ x.L
    · rw [if_pos h1, if_pos h1]
      by_cases h2 : (wStep n c b u x).hi ≤ (wStep n c b u x).lo
      · rw [if_pos h2, if_pos h2]
        rfl
      · rw [if_neg h2, if_neg h2]
        have := wRun_snoc n c s r (b + 1) (wStep n c b u x)
        rw [show (u :: r).length = r.length + 1 from rfl, show b + (r.length + 1) = b + 1 + r.length by omega]
        exact this
    · rw [if_neg h1, if_neg h1]
      rfl
/-- where the numbers of the first i continuations end -/
def cutAt (w : Nat) (y : Wst) (i : Nat) : Int := min y.hi (max y.lo ((w : Int) * (i : Int) - y.mv))
end Ef
namespace Ef
/-! ### sets and their numbers -/
def many (k : Nat) : Nat → Nat
  | 0 => 0
  | j + 1 => C k j
theorem C_many (k j : Nat) : C (k + 1) j = many k j + C k j := by
  cases j with
  | zero => rw [C_zero, C_zero]; rfl
  | succ j => exact C_ss k j
theorem binZ_many (k j : Nat) : binZ (k : Int) ((j : Int) - 1) = (many k j : Int) := by
  cases j with
  | zero => exact if_pos (.inl (by decide))
  | succ j =>
    rw [show ((j + 1 : Nat) : Int) - 1 = (j : Int) by omega]
    exact binZ_nat k j
/-- the set with the number r among those of j of the k servers from s on -/
def unr : Nat → Nat → Nat → Nat → List Nat
  | _, 0, _, _ => []
  | s, k + 1, j, r => if r < many k j then s :: unr (s + 1) k (j - 1) r else unr (s + 1) k j (r - many k j)
/-- the number of a set among those of its size of the k servers from s on -/
def rnk : Nat → Nat → List Nat → Nat
  | _, 0, _ => 0
  | s, k + 1, ms => if ms.head? = some s then rnk (s + 1) k ms.tail else many k ms.length + rnk (s + 1) k ms
def Sub (s k : Nat) (ms : List Nat) : Prop := ms.Pairwise (· < ·) ∧ ∀ m ∈ ms, s ≤ m ∧ m < s + k
theorem unr_spec : ∀ (k s j r : Nat), r < C k j → (unr s k j r).length = j ∧ Sub s k (unr s k j r) ∧ rnk s k (unr s k j r) = r
  | 0, s, j, r, h => by
    cases j with
    | zero =>
      have h0 : r < 1 := h
      exact ⟨rfl, ⟨List.Pairwise.nil, fun m hm => absurd hm List.not_mem_nil⟩, by show 0 = r; omega⟩
    | succ j => exact absurd h (Nat.not_lt_zero _)
  | k + 1, s, j, r, h => by
    rw [C_many] at h
    by_cases c : r < many k j
    · have e : unr s (k + 1) j r = s :: unr (s + 1) k (j - 1) r := if_pos c
      cases j with
      | zero => exact absurd c (Nat.not_lt_zero _)
      | succ j =>
        obtain ⟨h1, h2, h3⟩ := unr_spec k (s + 1) j r c
        rw [e]
        refine ⟨?_, ⟨?_, ?_⟩, ?_⟩
        · show (unr (s + 1) k j r).length + 1 = j + 1
          rw [h1]
        · refine List.Pairwise.cons (fun m hm => ?_) h2.1
          have := h2.2 m hm
          omega
        · intro m hm
          rcases List.mem_cons.mp hm with rfl | hm
          · omega
          · have := h2.2 m hm
            omega
        · have e3 : rnk s (k + 1) (s :: unr (s + 1) k j r) = rnk (s + 1) k (unr (s + 1) k j r) := if_pos rfl
          exact e3.trans h3
    · have e : unr s (k + 1) j r = unr (s + 1) k j (r - many k j) := if_neg c
      obtain ⟨h1, h2, h3⟩ := unr_spec k (s + 1) j (r - many k j) (by omega)
      rw [e]
      refine ⟨h1, ⟨h2.1, fun m hm => by have := h2.2 m hm; omega⟩, ?_⟩
      have hh : ¬ (unr (s + 1) k j (r - many k j)).head? = some s := fun z => by
        have hm : s ∈ unr (s + 1) k j (r - many k j) := List.mem_of_mem_head? z
        have := h2.2 s hm
        omega
      show (if (unr (s + 1) k j (r - many k j)).head? = some s then _ else many k (unr (s + 1) k j (r - many k j)).length + rnk (s + 1) k (unr (s + 1) k j (r - many k j))) = r
      rw [if_neg hh, h1, h3]
      omega
theorem rnk_spec : ∀ (k s : Nat) (ms : List Nat), Sub s k ms → rnk s k ms < C k ms.length ∧ unr s k ms.length (rnk s k ms) = ms
  | 0, s, ms, h => by
    cases ms with
    | nil => exact ⟨Nat.one_pos, rfl⟩
    | cons m r =>
      have := h.2 m List.mem_cons_self
      omega
  | k + 1, s, ms, h => by
    by_cases c : ms.head? = some s
    · cases ms with
      | nil => cases c
      | cons m t =>
        obtain rfl : m = s := Option.some.inj c
        have ht : Sub (m + 1) k t := ⟨(List.pairwise_cons.mp h.1).2, fun x hx => by
          have h1 := (List.pairwise_cons.mp h.1).1 x hx
          have h2 := h.2 x (List.mem_cons_of_mem _ hx)
          omega⟩
        obtain ⟨h1, h2⟩ := rnk_spec k (m + 1) t ht
        have e : rnk m (k + 1) (m :: t) = rnk (m + 1) k t := if_pos rfl
        rw [e]
        have hm : rnk (m + 1) k t < many k (t.length + 1) := h1
        refine ⟨?_, ?_⟩
        · rw [C_many]
          exact Nat.lt_of_lt_of_le hm (Nat.le_add_right _ _)
        · show unr m (k + 1) (t.length + 1) (rnk (m + 1) k t) = m :: t
          have e2 : unr m (k + 1) (t.length + 1) (rnk (m + 1) k t) = m :: unr (m + 1) k t.length (rnk (m + 1) k t) := if_pos hm
          rw [e2, h2]
    · have hs : Sub (s + 1) k ms := ⟨h.1, fun x hx => by
        have h2 := h.2 x hx
        have hne : x ≠ s := fun z => by
          subst z
          cases ms with
          | nil => cases hx
          | cons m t =>
            rcases List.mem_cons.mp hx with z | hx
            · exact c (by rw [z]; rfl)
            · have h3 := (List.pairwise_cons.mp h.1).1 x hx
              have h4 := h.2 m List.mem_cons_self
              omega
        omega⟩
      obtain ⟨h1, h2⟩ := rnk_spec k (s + 1) ms hs
      have e : rnk s (k + 1) ms = many k ms.length + rnk (s + 1) k ms := if_neg c
      rw [e]
      refine ⟨by rw [C_many]; omega, ?_⟩
      have e2 : unr s (k + 1) ms.length (many k ms.length + rnk (s + 1) k ms) = unr (s + 1) k ms.length (many k ms.length + rnk (s + 1) k ms - many k ms.length) := if_neg (by omega)
      rw [e2, Nat.add_sub_cancel_left, h2]
/-! the small sets, one after the other -/
def allG (few : Nat) : Nat → List (List Nat)
  | 0 => [[]]
  | i + 1 => allG few i ++ ((allG few i).filter fun s => decide (s.length < few)).map fun s => s ++ [i]
def allS (n few : Nat) : List (List Nat) := (allG few n).filter fun s => decide (s.length = few)
def inOrder (n few : Nat) : List (List Nat) := (List.range (C n few)).map (unr 0 n few)
def codeN : List Nat → Nat
  | [] => 0
  | d :: r => d * 8 ^ r.length + codeN r
def smallOk (n few : Nat) : Bool := (allS n few).isPerm (inOrder n few) && decide ((inOrder n few).Pairwise fun a b => codeN a < codeN b)
theorem small_sets : ((List.range 6).all fun i => (List.range (i + 3)).all fun few => smallOk (i + 2) few) = true := by decide +kernel
theorem small_lens : ((List.range 6).all fun i => (List.range (i + 3)).all fun few => decide (C (i + 2) few < 64) && (allS (i + 2) few).all fun s => decide (s.length = few) && s.all fun m => decide (m < 8)) = true := by decide +kernel
theorem gen_lens : ((List.range 6).all fun i => (List.range (i + 3)).all fun few => (List.range (i + 3)).all fun t => decide ((allG few t).length ≤ 200) && (allG few t).all fun s => decide (s.length ≤ 8)) = true := by decide +kernel
theorem small_sets' {n k : Nat} (h2 : 2 ≤ n) (h7 : n ≤ 7) (hk : k ≤ n) : (allS n k).Perm (inOrder n k) ∧ (inOrder n k).Pairwise (fun a b => codeN a < codeN b) ∧ C n k < 64 ∧ ∀ s ∈ allS n k, s.length = k ∧ ∀ m ∈ s, m < 8 := by
  obtain ⟨i, rfl⟩ : ∃ i, n = i + 2 := ⟨n - 2, by omega⟩
  have h1 := List.all_eq_true.mp (List.all_eq_true.mp small_sets i (List.mem_range.mpr (by omega))) k (List.mem_range.mpr (by omega))
  unfold smallOk at h1
  rw [Bool.and_eq_true] at h1
  have h3 := List.all_eq_true.mp (List.all_eq_true.mp small_lens i (List.mem_range.mpr (by omega))) k (List.mem_range.mpr (by omega))
  rw [Bool.and_eq_true] at h3
  refine ⟨List.isPerm_iff.mp h1.1, of_decide_eq_true h1.2, of_decide_eq_true h3.1, fun s hs => ?_⟩
  have h4 := List.all_eq_true.mp h3.2 s hs
  rw [Bool.and_eq_true] at h4
  exact ⟨of_decide_eq_true h4.1, fun m hm => of_decide_eq_true (List.all_eq_true.mp h4.2 m hm)⟩
theorem gen_lens' {n k t : Nat} (h2 : 2 ≤ n) (h7 : n ≤ 7) (hk : k ≤ n) (ht : t ≤ n) : (allG k t).length ≤ 200 ∧ ∀ s ∈ allG k t, s.length ≤ 8 := by
  obtain ⟨i, rfl⟩ : ∃ i, n = i + 2 := ⟨n - 2, by omega⟩
  have h1 := List.all_eq_true.mp (List.all_eq_true.mp (List.all_eq_true.mp gen_lens i (List.mem_range.mpr (by omega))) k (List.mem_range.mpr (by omega))) t (List.mem_range.mpr (by omega))
  rw [Bool.and_eq_true] at h1
  exact ⟨of_decide_eq_true h1.1, fun s hs => of_decide_eq_true (List.all_eq_true.mp h1.2 s hs)⟩
theorem code_inj {L : List (List Nat)} (h : L.Pairwise fun a b => codeN a < codeN b) {a b : List Nat} (ha : a ∈ L) (hb : b ∈ L) (e : codeN a = codeN b) : a = b := by
  induction L with
  | nil => cases ha
  | cons x r ih =>
    obtain ⟨h1, h2⟩ := List.pairwise_cons.mp h
    rcases List.mem_cons.mp ha with e1 | ha2
    · rcases List.mem_cons.mp hb with e2 | hb2
      · rw [e1, e2]
      · have := h1 b hb2
        rw [← e1] at this
        omega
    · rcases List.mem_cons.mp hb with e2 | hb2
      · have := h1 a ha2
        rw [← e2] at this
        omega
      · exact ih h2 ha2 hb2
theorem order_unique {L M : List (List Nat)} (hM : M.Pairwise fun a b => codeN a < codeN b) (hL : L.Pairwise fun a b => codeN a ≤ codeN b) (h : L.Perm M) : L = M := by
  induction M generalizing L with
  | nil => exact List.perm_nil.mp h
  | cons x r ih =>
    cases L with
    | nil => exact absurd h.length_eq (by simp)
    | cons y t =>
      obtain ⟨h1, h2⟩ := List.pairwise_cons.mp hM
      obtain ⟨h3, h4⟩ := List.pairwise_cons.mp hL
      have hyx : y = x := by
        have hy : y ∈ x :: r := h.mem_iff.mp List.mem_cons_self
        have hx : x ∈ y :: t := h.mem_iff.mpr List.mem_cons_self
        rcases List.mem_cons.mp hy with e | hy
        · exact e
        · rcases List.mem_cons.mp hx with e | hx
          · exact e.symm
          · have h5 := h1 y hy
            have h6 := h3 x hx
            omega
      subst hyx
      rw [ih h2 h4 h.cons_inv]
end Ef
namespace Ef
open PySem PySem.Spec PyProof.Rows L2
/-! ### a call whose arguments are all given by name -/
def permL {α : Type} (perm : List Nat) (n : Nat) (us ws : List α) : List α :=
  if us.length = 0 ∧ ws.length = n then perm.filterMap (fun i => ws[i]?) else []
theorem paired_len {α β : Type} {F : α → β → Prop} : ∀ {l : List α} {m : List β}, Paired F l m → l.length = m.length
  | _, _, .nil => rfl
  | _, _, .cons _ t => congrArg (· + 1) (paired_len t)
theorem paired_at {α β : Type} {F : α → β → Prop} : ∀ {l : List α} {m : List β}, Paired F l m → ∀ i : Nat, (l[i]? = none ∧ m[i]? = none) ∨ ∃ x y, l[i]? = some x ∧ m[i]? = some y ∧ F x y
  | _, _, .nil, _ => .inl ⟨rfl, rfl⟩
  | _, _, .cons h _, 0 => .inr ⟨_, _, rfl, rfl, h⟩
  | _, _, .cons _ t, i + 1 => by
    rw [List.getElem?_cons_succ, List.getElem?_cons_succ]
    exact paired_at t i
theorem paired_pick {α β : Type} {F : α → β → Prop} {l : List α} {m : List β} (h : Paired F l m) : ∀ perm : List Nat, Paired F (perm.filterMap (fun i => l[i]?)) (perm.filterMap (fun i => m[i]?))
  | [] => .nil
  | i :: r => by
    rcases paired_at h i with ⟨e1, e2⟩ | ⟨x, y, e1, e2, f⟩
    · rw [List.filterMap_cons_none e1, List.filterMap_cons_none e2]
      exact paired_pick h r
    · rw [List.filterMap_cons_some e1, List.filterMap_cons_some e2]
      exact .cons f (paired_pick h r)
theorem permL_rel {perm : List Nat} {n : Nat} {vs zs : List V} {us ws : List Value} (r : Vals vs us) (rz : Vals zs ws) : Vals (permL perm n vs zs) (permL perm n us ws) := by
  unfold permL
  rw [paired_len r, paired_len rz]
  by_cases h : us.length = 0 ∧ ws.length = n
  · rw [if_pos h, if_pos h]
    exact paired_pick rz perm
  · rw [if_neg h, if_neg h]
    exact .nil
theorem kb_of {K : PySem.W.Frag} {fd : FuncData} {ps ks : List Str} {perm : List Nat} {n : Nat} (h0 : ps ≠ [])
    (h : ∀ ws : List Value, ws.length = n → bindArgs fd ⟨[], ks.zip ws⟩ = pure (ps.zip (perm.filterMap (fun i => ws[i]?)))) :
    KBinds K fd ps ks (permL perm n) (permL perm n) := by
  refine ⟨fun s us ws _ hl => ?_, fun r rz => permL_rel r rz⟩
  unfold permL at hl ⊢
  by_cases c : us.length = 0 ∧ ws.length = n
  · rw [if_pos c]
    have e : us = [] := List.length_eq_zero_iff.mp c.1
    subst e
    exact .of_eq (h ws c.2)
  · rw [if_neg c] at hl
    exact absurd (List.length_eq_zero_iff.mp hl.symm) h0
theorem Fun_kb {K : PySem.W.Frag} {x qual : Str} {st : Stmt} {f : Addr} {fd : FuncData} {ps ks : List Str} (perm : List Nat) (n : Nat) (F : Fun K x qual st f fd) (h0 : ps ≠ [])
    (h : ∀ (kV doc pm : Value) (an : Option Addr) (cdv ct : Value) (ws : List Value), ws.length = n → bindArgs (PySem.W.fnOf x qual (defArgs st) (defBody st) (defScope st) .none kV doc pm an cdv ct) ⟨[], ks.zip ws⟩ = pure (ps.zip (perm.filterMap (fun i => ws[i]?)))) :
    KBinds K fd ps ks (permL perm n) (permL perm n) := by
  obtain ⟨oc, od, kV, doc, pm, an, cdv, ct, osl, rfl, lk, hcd⟩ := F.ex
  exact kb_of h0 (h kV doc pm an cdv ct)
section
variable {X : Cx} {CX : CXT} {k : Nat} {f : Addr} {fd : FuncData} {ps ks : List Str} {sp : Sp} {E : XK} {x : Str} {p pos : Pos} {kws : List Keyword} {tk : TA}
variable {g : List Value → List Value → List Value} {gV : List V → List V → List V}
/-- f(k = v, ..) -/
theorem pe_kw (F : FnOk X.prog X.w X.K X.mg X.base CX k f fd ps sp) (hr : Room k X.A) (hg : Gl X x) (hm : X.mg x = some (.ref f))
    (hk : PySem.W.keepIn X.K (.ref f) = true) (hb : KBinds X.K fd ps ks g gV) (hx : Passes CX X E) (hkw : PK X kws tk)
    (a1 : (backToKw pos (keywordEach kws X.env)).all (fun z => z.1.isSome) = true := by rfl)
    (a2 : (backToKw pos (keywordEach kws X.env)).filterMap (fun z => z.1) = ks := by rfl)
    (a3 : (x == ("__debug__" : Str)) = false := by decide)
    (a4 : ((backTo pos (starEach [] X.env)).any (fun z => z.1) || (backToKw pos (keywordEach kws X.env)).any (fun z => z.1.isNone)) = false := by rfl) :
    PE X (.Call (.Name x p) [] kws pos) (tCallK sp gV E tNil tk) := by
  refine ⟨fun pins s σ H Q I h => wpAny_Call_Name_kw (ld_glob I hg hm ?_ a3)⟩
  refine PySem.W.callWith_KW0 (h₀ := X.base) I.ok.mod.kin hk a1 ?_ a4
  refine thn (hkw.run pos pins s σ H _ I h) fun ws s2 z => ?_
  obtain ⟨zs, H2, I2, rz, q2⟩ := z
  refine ⟨I2.kIn, ?_⟩
  rw [a2]
  exact run_fnk (us := []) (vs := []) F hr hb hx I2 .nil rz q2
end
/-! ### heaps -/
theorem same_new {H : Hp} {p : Addr} {o : HO} (h : H p = none) : Same H (upd H p o) := fun b x e => by
  rw [upd_ne (ne_of_none e h)]
  exact e
theorem keep_upd {H H1 : Hp} {p : Addr} {o : HO} (s : Same H H1) (h : H p = none) : Same H (upd H1 p o) := fun b x e => by
  rw [upd_ne (ne_of_none e h)]
  exact s b x e
/-- all but what stands at p is as it was -/
def But (p : Addr) (H H' : Hp) : Prop := ∀ b o, b ≠ p → H b = some o → H' b = some o
theorem But.refl (p : Addr) (H : Hp) : But p H H := fun _ _ _ e => e
theorem But.trans {p : Addr} {H H1 H2 : Hp} (s : But p H H1) (t : But p H1 H2) : But p H H2 := fun b o n e => t b o n (s b o n e)
theorem But.same {p : Addr} {H H1 H2 : Hp} (s : But p H H1) (t : Same H1 H2) : But p H H2 := fun b o n e => t b o (s b o n e)
theorem But.of {p : Addr} {H H1 : Hp} (t : Same H H1) : But p H H1 := fun b o _ e => t b o e
theorem But.upd {p : Addr} {H H1 : Hp} {o : HO} (s : But p H H1) : But p H (upd H1 p o) := fun b x n e => by
  rw [upd_ne n]
  exact s b x n e
theorem But.to {p : Addr} {H H1 : Hp} (s : But p H H1) (h : H p = none) : Same H H1 := fun b x e => s b x (ne_of_none e h) e
theorem But.seq {K : PySem.W.Frag} {p a : Addr} {H H' : Hp} {xs : List V} (e : But p H H') (n : a ≠ p) (h : SqL K H a xs) : SqL K H' a xs := by
  rcases h with (h | ⟨o, h⟩) | h
  · exact .inl (.inl (e _ _ n h))
  · exact .inl (.inr ⟨o, e _ _ n h⟩)
  · exact .inr h
end Ef
namespace Ef
open PySem PySem.Spec PyProof.Rows L2
/-! ### promises of defs that are called where no repr is under way -/
structure FnG (P : Program) (w : World) (K : PySem.W.Frag) (mg : Str → Option Value) (base : Heap) (CX : CXT) (k : Nat) (f : Addr) (fd : FuncData) (ps : List Str) (sp : Sp) : Prop where
  len : ∀ vs H Q E, sp vs H Q E → vs.length = ps.length
  run : ∀ (A : Around), A.guards = some [] → ∀ (outer : List Env) (s : Shared) (H : Hp) (args : Args) (us : List Value) (vs : List V) (Q : VK) (E : XK),
    Room k A → Env0 P w K mg base A outer s H → BindsTo s fd args (ps.zip us) → Vals vs us → sp vs H Q E →
      codeAny (model P w) A (.call (.ref f) args) (CR CX outer P w H s Q E) s
section
variable {P : Program} {w : World} {K : PySem.W.Frag} {mg : Str → Option Value} {base : Heap} {CX : CXT}
theorem FnG.of {k : Nat} {f : Addr} {fd : FuncData} {ps : List Str} {sp : Sp} (F : FnOk P w K mg base CX k f fd ps sp) : FnG P w K mg base CX k f fd ps sp :=
  ⟨F.len, fun A _ outer s H args us vs Q E => F.run A outer s H args us vs Q E⟩
theorem Fun_okG {x qual : Str} {st : Stmt} {f : Addr} {fd : FuncData} {N ps : List Str} {k : Nat} {sp : Sp} (F : Fun K x qual st f fd) (S : FnScope N ps (defScope st)) (len : ∀ vs H Q E, sp vs H Q E → vs.length = ps.length)
    (bod : ∀ (cdv : Value) (A : Around) (outer : List Env) (s : Shared) (H : Hp) (vs : List V) (Q : VK) (E : XK), A.guards = some [] → Room k (A.deeper (envOfC qual (defScope st) s.heap.objs.size f cdv)) → sp vs H Q E →
      ∃ t, PSs (cxOf CX P w K mg base N qual (defScope st) f cdv A outer s H E) (defBody st) t ∧ t { nx := fun _ H' => Q .non H', rt := Q } (start N vs) H) :
    FnG P w K mg base CX (k + 1) f fd ps sp := by
  obtain ⟨oc, od, kV, doc, pm, an, cdv, ct, osl, rfl, lk, hcd⟩ := F.ex
  refine ⟨len, fun A gd outer s H args us vs Q E room e0 bnd rel wish => ?_⟩
  have kin : K.In s.heap := e0.mod.kin.keeps fun b o z => (e0.bs b o z).1
  have nolim : s.heap.NoLimit := e0.mod.nolimit.keeps fun b o z => (e0.bs b o z).1
  refine codeAny_call_function room.depth (kin _ _ lk) rfl S.co S.gen rfl (PySem.W.codeRec_of kin hcd) (bnd _ _ _ _ ?_)
  refine wpAny_newFunctionEnv_cells S.kind ?_ fun env hev s1 ic => ?_
  · rintro ⟨n, v⟩ hy
    rcases S.par n (List.of_mem_zip hy).1 with z | z
    · exact .inl z
    · exact .inr ⟨z, PySem.W.cellsFrom_some _ _ _ (.inl z)⟩
  · subst hev
    refine ⟨nolim.keeps ic.toInCall.keep, codeAny_func ?_⟩
    obtain ⟨t, pt, rd⟩ := bod cdv A outer s H vs Q E gd (room.deeper _) wish
    have J0 := inv_start (CX := CX) (E := E) S room.hd e0 (len _ _ _ _ wish) rel ic
    refine wpAny_mono (pt.run [] s1 (start N vs) H _ J0 rd) (fun fl s' got => ?_) fun e s' got => got
    cases fl with
    | brk =>
      obtain ⟨_, _, _, z⟩ := got
      exact z.elim
    | cont =>
      obtain ⟨_, _, _, z⟩ := got
      exact z.elim
    | next =>
      obtain ⟨σ', H', J, z⟩ := got
      exact ⟨V.non, H', J.os, J.bare, J.base, J.hok, (rfl : RelV V.non Value.none), z⟩
    | ret u =>
      obtain ⟨v, σ', H', J, rv, z⟩ := got
      exact ⟨v, H', J.os, J.bare, J.base, J.hok, rv, z⟩
end
/-- the same of a def that lets no exception out -/
theorem Fun_ok0 {P : Program} {w : World} {K : PySem.W.Frag} {mg : Str → Option Value} {base : Heap} {x qual : Str} {st : Stmt} {f : Addr} {fd : FuncData} {N ps : List Str} {k : Nat} {sp : Sp} (F : Fun K x qual st f fd) (S : FnScope N ps (defScope st)) (len : ∀ vs H Q E, sp vs H Q E → vs.length = ps.length)
    (bod : ∀ (cdv : Value) (A : Around) (outer : List Env) (s : Shared) (H : Hp) (vs : List V) (Q : VK) (E : XK), A.guards = some [] → Room k (A.deeper (envOfC qual (defScope st) s.heap.objs.size f cdv)) → sp vs H Q E →
      ∃ t, PSs (cxOf CX0 P w K mg base N qual (defScope st) f cdv A outer s H E).nox (defBody st) t ∧ t { nx := fun _ H' => Q .non H', rt := Q } (start N vs) H) :
    FnG P w K mg base CX0 (k + 1) f fd ps sp :=
  Fun_okG F S len fun cdv A outer s H vs Q E gd room wish => by
    obtain ⟨t, pt, rd⟩ := bod cdv A outer s H vs Q E gd room wish
    exact ⟨t, pt.nox, rd⟩
section
variable {X : Cx} {CX : CXT} {k : Nat} {f : Addr} {fd : FuncData} {ps : List Str} {sp : Sp} {E : XK} {x : Str} {p pos : Pos} {e : Expr} {es : List Expr} {t : TA}
theorem run_G {pins : List (Addr × Obj)} {σ : L2.St} {H : Hp} {s : Shared} {Q : VK} {us : List Value} {vs : List V} (F : FnG X.prog X.w X.K X.mg X.base CX k f fd ps sp)
    (gd : X.A.guards = some []) (room : Room k X.A) (bnd : Binds X.K fd ps []) (pass : Passes CX X E) (I : Inv X pins σ H s) (rel : Vals vs us) (wish : sp vs H Q E) :
    wpAny (model X.prog X.w) X.A (call (.ref f) us) (EP X pins σ Q) X.xe s := by
  have hl : (us ++ []).length = ps.length := by
    rw [List.append_nil, ← rel.length]
    exact F.len _ _ _ _ wish
  have b1 := bnd s us I.kIn hl
  rw [List.append_nil] at b1
  refine wpAny_call (codeAny_mono (F.run X.A gd X.stack s H ⟨us, []⟩ us vs Q E room I.env0 b1 rel wish) fun res s' got => ?_)
  cases res with
  | error z => exact pass pins σ H s z s' I got
  | ok fl =>
    cases fl with
    | ret u => exact I.after got
    | next => exact got.elim
    | brk => exact got.elim
    | cont => exact got.elim
/-- f(e, ..) of a def whose promise holds where no repr is under way -/
theorem pe_callG (F : FnG X.prog X.w X.K X.mg X.base CX k f fd ps sp) (gd : X.A.guards = some []) (room : Room k X.A) (hg : Gl X x) (hm : X.mg x = some (.ref f))
    (hk : PySem.W.keepIn X.K (.ref f) = true) (bnd : Binds X.K fd ps []) (pass : Passes CX X E) (ha : PA X (e :: es) t)
    (a1 : (x == ("__debug__" : Str)) = false := by decide) (a2 : starEach (e :: es) X.env = (false, eval e X.env) :: starEach es X.env := by rfl)
    (a3 : (backTo pos (starEach es X.env)).any (fun z => z.1) = false := by rfl) :
    PE X (.Call (.Name x p) (e :: es) [] pos) (tCall sp [] E t) := by
  refine ⟨fun pins s σ H Q I h => wpAny_Call_Name_kw (ld_glob I hg hm ?_ a1)⟩
  refine PySem.W.callWith_K (h₀ := X.base) I.ok.mod.kin hk (thn (ha.run pos pins s σ H _ I h) fun us s1 z => ?_) a2 a3
  obtain ⟨vs, H1, I1, r, q⟩ := z
  rw [List.append_nil] at q
  exact ⟨I1.kIn, run_G F gd room bnd pass I1 r q⟩
end
/-! ### the law's own end, where no repr is under way -/
def scriptObj (vs : List Value) : Obj := { cls := .type "list", data := .seq vs.toArray }
def scriptHp (K : PySem.W.Frag) (a : Addr) (vs : List Value) (ns : List Int) : Hp := fun b => if b = a ∧ K.lookup a = none then some (.frz (scriptObj vs) (.lst (ns.map V.int))) else none
section
variable {K : PySem.W.Frag} {a : Addr} {vs : List Value} {ns : List Int}
theorem scriptHp_only : Only (scriptHp K a vs ns) := fun b => by
  unfold scriptHp
  by_cases c : b = a ∧ K.lookup a = none
  · exact .inr ⟨_, _, if_pos c⟩
  · exact .inl (if_neg c)
theorem scriptHp_some {b : Addr} {u : HO} (h : scriptHp K a vs ns b = some u) : b = a ∧ K.lookup a = none ∧ u = .frz (scriptObj vs) (.lst (ns.map V.int)) := by
  unfold scriptHp at h
  by_cases c : b = a ∧ K.lookup a = none
  · rw [if_pos c] at h
    exact ⟨c.1, c.2, (Option.some.inj h).symm⟩
  · rw [if_neg c] at h
    cases h
theorem scriptHp_none {b : Addr} {o : Obj} {h : Heap} (ha : h.get? a = some (scriptObj vs)) (e : h.get? b = some o) (hd : ∀ its n, o.data ≠ .seq its n) : scriptHp K a vs ns b = none := by
  cases q : scriptHp K a vs ns b with
  | none => rfl
  | some u =>
    obtain ⟨rfl, _, _⟩ := scriptHp_some q
    rw [ha] at e
    cases e
    exact absurd rfl (hd vs.toArray _)
theorem lawG {l : PySem.W.OpenLaw} {n k : Nat} {q : Program} {loose : List Str} {XP : (Str → Option Value) → Heap → Prop} {YP : World → Heap → Prop} {d : DefRec} {K : Params → PySem.W.Frag} {sp : World → Sp} {x : Str}
    (hn : l.most = some n) (hn2 : n ≤ sizeLine) (hdf : d.params.defaults = []) (room : Room k callerA)
    (hY : ∀ (w : World) (h : Heap), YP w h → (K w.params).In h)
    (F : ∀ (w : World) (mg : Str → Option Value) (fa : Addr) (h : Heap), (K w.params).In h → h.Ns mainGlobals mg → mg d.name = some (.ref fa) →
      ∃ fd : FuncData, (∀ (s : Shared) (u : Value), BindsTo s fd ⟨[u], []⟩ [(x, u)]) ∧
        ∀ base : Heap, (K w.params).In base → base.Ns mainGlobals mg → FnG l.prog w (K w.params) mg base CX0 k fa fd [x] (sp w))
    (hsp : ∀ (w : World) (H : Hp) (a : Addr) (ns : List Int), ns.length ≤ n → Only H → SqL (K w.params) H a (ns.map V.int) → sp w [.ref a] H (fun v _ => v = .bl true) fun _ _ _ => False) :
    PySem.W.WalkO q loose XP YP l.row.toRowW d [] (fun f vs => PySem.call f vs) := by
  refine Att.attach_call hn hdf fun w s₀ s₁ mg mb fa o pm cd doc a vs ns G Y ho hd hcd hmg hobj hints hlen hgen => ?_
  have kin := hY w _ Y
  obtain ⟨fd, bnd, FF⟩ := F w mg fa _ kin G.T.g hmg
  have ha : s₁.heap.get? a = some (scriptObj vs) := hobj
  have short : ns.length ≤ sizeLine := Nat.le_trans hlen hn2
  have keep0 : ∀ {b : Addr} {o : Obj}, s₁.heap.get? b = some o → scriptHp (K w.params) a vs ns b = none → (hidT s₁.heap (scriptHp (K w.params) a vs ns)).get? b = some o := fun e z => hidT_get e z
  have nsK : ∀ {b : Addr} {m : Str → Option Value}, s₁.heap.Ns b m → (hidT s₁.heap (scriptHp (K w.params) a vs ns)).Ns b m := by
    rintro b m ⟨o, es, ep, e, dd, r⟩
    exact ⟨o, es, ep, keep0 e (scriptHp_none ha e fun its n z => by rw [dd] at z; cases z), dd, r⟩
  have kinB : (K w.params).In (hidT s₁.heap (scriptHp (K w.params) a vs ns)) := fun b o e => keep0 (kin b o e) (by
    cases z : scriptHp (K w.params) a vs ns b with
    | none => rfl
    | some u =>
      obtain ⟨rfl, z2, _⟩ := scriptHp_some z
      rw [z2] at e
      cases e)
  have hM : Mod (K w.params) mg (hidT s₁.heap (scriptHp (K w.params) a vs ns)) := by
    obtain ⟨mc, h1, h2⟩ := G.T.nolimit
    exact ⟨kinB, nsK G.T.g, ⟨mb, nsK G.T.b, G.T.builtins⟩, ⟨mc, nsK h1, h2⟩⟩
  have hok : HOk l.prog w (scriptHp (K w.params) a vs ns) s₁.heap := fun b u z => by
    obtain ⟨rfl, _, rfl⟩ := scriptHp_some z
    exact ⟨ha, by rw [List.length_map]; exact short, vs, _, vals_ints hints, ha⟩
  have hS : SqL (K w.params) (scriptHp (K w.params) a vs ns) a (ns.map V.int) := by
    cases hk : (K w.params).lookup a with
    | none => exact .inl (.inr ⟨scriptObj vs, if_pos ⟨rfl, hk⟩⟩)
    | some o =>
      have e := kin a o hk
      rw [ha] at e
      obtain rfl := Option.some.inj e
      exact .inr ⟨_, vs.toArray, _, hk, rfl, rfl, rfl, by rw [List.size_toArray, hints.length]; exact short, by simpa using vals_ints hints⟩
  have e0 : Env0 l.prog w (K w.params) mg (hidT s₁.heap (scriptHp (K w.params) a vs ns)) callerA [] s₁ (scriptHp (K w.params) a vs ns) :=
    ⟨rfl, hM, fun b o e => of_hidT e, Nat.le_of_eq (hidT_size _ _), trivial, fun b z => absurd (show b ∈ ([] : List Addr) from z) (by simp), hok, .of_eq hgen⟩
  refine codeAny_mono ((FF _ kinB (nsK G.T.g)).run callerA rfl [] s₁ _ ⟨[.ref a], []⟩ [.ref a] [.ref a] _ _ room e0 (bnd s₁ (.ref a)) (.cons rfl .nil) (hsp w _ a ns hlen scriptHp_only hS)) fun r s' got => ?_
  cases r with
  | error e => exact got.elim
  | ok fl =>
    cases fl with
    | next => exact got.elim
    | brk => exact got.elim
    | cont => exact got.elim
    | ret u =>
      obtain ⟨v, H', os, bare, un, hok', rv, z⟩ := got
      obtain rfl : v = .bl true := z
      obtain rfl : u = Value.bool true := rv
      refine ⟨rfl, OldK.of_keep fun b o e => ?_, os, bare⟩
      cases z : scriptHp (K w.params) a vs ns b with
      | none => exact un.keep b o e z (fun y => absurd (show b ∈ ([] : List Addr) from y) (by simp)) (by simp)
      | some u =>
        obtain ⟨_, _, rfl⟩ := scriptHp_some z
        have z2 := un.frzs b _ _ z
        obtain ⟨e1, _⟩ := hok b _ z
        obtain ⟨e2, _⟩ := hok' b _ z2
        rw [e] at e1
        obtain rfl := Option.some.inj e1
        exact e2
end
/-! ### repr of data -/
theorem Dp_ref {K : PySem.W.Frag} {H : Hp} {v : V} {d : PyData} (h : Dp K H v d) : (∃ a, v = .ref a) ∨ (v = .non ∧ d = .none) ∨ (∃ b, v = .bl b ∧ d = .bool b) ∨ (∃ i, v = .int i ∧ d = .int i) ∨ ∃ x, v = .str x ∧ d = .str x := by
  cases h with
  | non => exact .inr (.inl ⟨rfl, rfl⟩)
  | bl b => exact .inr (.inr (.inl ⟨b, rfl, rfl⟩))
  | int i => exact .inr (.inr (.inr (.inl ⟨i, rfl, rfl⟩)))
  | str x => exact .inr (.inr (.inr (.inr ⟨x, rfl, rfl⟩)))
  | lst _ _ => exact .inl ⟨_, rfl⟩
  | tup _ _ => exact .inl ⟨_, rfl⟩
/-- data that can be shown: not deeper than dp, not heavier than wt -/
structure Sh (dp wt : Nat) (d : PyData) : Prop where
  can : d.canLay0 = true
  dep : d.depth ≤ dp
  shw : d.showable = true
  lvs : d.leavesShort 200 = true
  wgt : d.weight ≤ wt
structure ShAll (dp wt : Nat) (ds : List PyData) : Prop where
  can : PyData.canLayAll0 ds = true
  dep : PyData.depthAll ds ≤ dp
  shw : PyData.showableAll ds = true
  lvs : PyData.leavesShortAll 200 ds = true
  wgt : PyData.weightAll ds ≤ wt
theorem Sh.mono {dp wt dp' wt' : Nat} {d : PyData} (h : Sh dp wt d) (h1 : dp ≤ dp') (h2 : wt ≤ wt') : Sh dp' wt' d := ⟨h.can, Nat.le_trans h.dep h1, h.shw, h.lvs, Nat.le_trans h.wgt h2⟩
theorem ShAll.mono {dp wt dp' wt' : Nat} {ds : List PyData} (h : ShAll dp wt ds) (h1 : dp ≤ dp') (h2 : wt ≤ wt') : ShAll dp' wt' ds := ⟨h.can, Nat.le_trans h.dep h1, h.shw, h.lvs, Nat.le_trans h.wgt h2⟩
theorem Sh.none : Sh 0 0 .none := ⟨rfl, Nat.le_refl _, rfl, rfl, Nat.le_refl _⟩
theorem Sh.bool (b : Bool) : Sh 0 0 (.bool b) := ⟨rfl, Nat.le_refl _, rfl, rfl, Nat.le_refl _⟩
theorem Sh.int {b : Nat} (h0 : 0 < b) (h6 : b ≤ 600) {i : Int} (h : i.natAbs < 2 ^ b) : Sh 0 b (.int i) := by
  have l2 := PySem.Flt.log2_lt_of h0 h
  refine ⟨rfl, Nat.le_refl _, decide_eq_true (by omega), decide_eq_true ?_, ?_⟩
  · have h1 : i.natAbs < 10 ^ 199 := Nat.lt_of_lt_of_le h (Nat.le_trans (Nat.pow_le_pow_right (by decide) h6) (by decide +kernel))
    have e := int_text_length_le10 (k := 199) (by decide) h1
    show (Str.ofString (toString i)).length ≤ 200
    rw [PySem.ofString_length]
    exact e
  · show (if i == 0 then 0 else i.natAbs.log2 + 1) ≤ b
    split <;> omega
theorem Sh.tup {dp wt : Nat} {ds : List PyData} (h : ShAll dp wt ds) : Sh (dp + 1) wt (.tuple ds) := ⟨h.can, Nat.add_le_add_right h.dep 1, h.shw, h.lvs, h.wgt⟩
theorem Sh.lst {dp wt : Nat} {ds : List PyData} (h : ShAll dp wt ds) : Sh (dp + 1) wt (.list ds) := ⟨h.can, Nat.add_le_add_right h.dep 1, h.shw, h.lvs, h.wgt⟩
theorem ShAll.nil : ShAll 0 0 [] := ⟨rfl, Nat.le_refl _, rfl, rfl, Nat.le_refl _⟩
theorem ShAll.cons {dp wt wt' : Nat} {d : PyData} {ds : List PyData} (h : Sh dp wt d) (t : ShAll dp wt' ds) : ShAll dp (wt + 1 + wt') (d :: ds) := by
  refine ⟨?_, Nat.max_le.mpr ⟨h.dep, t.dep⟩, ?_, ?_, ?_⟩
  · show (d.canLay0 && PyData.canLayAll0 ds) = true
    rw [h.can, t.can]
    rfl
  · show (d.showable && PyData.showableAll ds) = true
    rw [h.shw, t.shw]
    rfl
  · show (d.leavesShort 200 && PyData.leavesShortAll 200 ds) = true
    rw [h.lvs, t.lvs]
    rfl
  · show d.weight + 1 + PyData.weightAll ds ≤ wt + 1 + wt'
    have h1 := h.wgt
    have h2 := t.wgt
    omega
theorem ShAll.ints {b : Nat} (h0 : 0 < b) (h6 : b ≤ 600) : ∀ {ns : List Int}, (∀ x ∈ ns, x.natAbs < 2 ^ b) → ShAll 0 ((b + 1) * ns.length) (ns.map PyData.int)
  | [], _ => ShAll.nil
  | x :: r, h => by
    have h1 := ShAll.cons (Sh.int h0 h6 (h x List.mem_cons_self)) (ShAll.ints h0 h6 fun y hy => h y (List.mem_cons_of_mem _ hy))
    exact h1.mono (Nat.le_refl _) (by rw [List.length_cons, Nat.mul_succ]; omega)
theorem Sh.shaped {dp wt : Nat} {d : PyData} (h : Sh dp wt d) (h1 : dp ≤ 64) : SeqAt.shaped d = true := by
  unfold SeqAt.shaped
  rw [h.can]
  exact decide_eq_true (Nat.le_trans h.dep h1)
theorem Sh.fits {dp wt : Nat} {d : PyData} (h : Sh dp wt d) (h1 : wt ≤ 80000) : d.shown.length ≤ sizeLine := by
  have h2 := PyData.shown_le 200 (by decide) d h.lvs
  have h3 := h.wgt
  have h4 : (200 + 2) * d.weight ≤ 202 * 80000 := Nat.mul_le_mul (by omega) (by omega)
  have h5 : sizeLine = 16777216 := by decide
  omega
theorem dp_ints {K : PySem.W.Frag} {H : Hp} : ∀ ns : List Int, DpAll K H (ns.map V.int) (ns.map PyData.int)
  | [] => .nil
  | n :: r => .cons (.int n) (dp_ints r)
theorem eqvAll_ints : ∀ ns : List Int, PyData.eqvAll (ns.map PyData.int) (ns.map PyData.int) = true
  | [] => rfl
  | n :: r => by
    show (PyData.eqv (.int n) (.int n) && PyData.eqvAll (r.map PyData.int) (r.map PyData.int)) = true
    rw [eqvAll_ints r]
    show ((n == n) && true) = true
    rw [beq_self_eq_true]
    rfl
section
variable {X : Cx}
/-- repr(x), x data: its text -/
theorem call_reprD (gd : X.A.guards = some []) (hu : X.A.units + 66 < cLine) : CallR X (.builtin "repr") (fun xs H Q => ∃ v d, xs = [v] ∧ Dp X.K H v d ∧ Sh 60 80000 d ∧ Q (.str d.shown) H) := by
  intro pins s σ H xs us Q I r h
  obtain ⟨v, d, rfl, hD, hd, q⟩ := h
  have hsh := hd.shaped (by decide)
  have hsz := hd.fits (by decide)
  obtain ⟨u, rfl, ru⟩ := vals1 r
  rcases Dp_ref hD with ⟨a, rfl⟩ | ⟨rfl, rfl⟩ | ⟨b, rfl, rfl⟩ | ⟨i, rfl, rfl⟩ | ⟨x, rfl, rfl⟩
  · obtain rfl : u = Value.ref a := ru
    obtain ⟨as, rd⟩ := Dp.reads I d _ _ hD rfl
    have hdp := hd.dep
    refine repr_of_reads' rd hd.shw (PyData.noDict_hsm (PyData.hasDict_of_canLay d hd.can)) gd (by omega) (fun _ _ e => e) (fun h' u tk hk => ?_) hsz
    exact ⟨.str _, H, I.kept hk, ⟨u, rfl⟩, q⟩
  · obtain rfl : u = Value.none := ru
    exact P.repr_of_none ⟨.str _, H, I.tok _, ⟨_, rfl⟩, q⟩
  · obtain rfl : u = Value.bool b := ru
    exact P.repr_of_bool ⟨.str _, H, I.tok _, ⟨_, rfl⟩, q⟩
  · obtain ⟨t, rfl⟩ := ru
    exact P.repr_of_int (of_decide_eq_true hd.shw) ⟨.str _, H, I.tok _, ⟨_, rfl⟩, q⟩
  · obtain ⟨t, rfl⟩ := ru
    exact P.repr_of_str ⟨.str _, H, I.tok _, ⟨_, rfl⟩, q⟩ hsz
/-- a ** b of greater numbers -/
theorem op_powB : OpR X (binaryOp .Pow) (rI (fun i j => 0 ≤ j ∧ (Builtin.Int.intBits i : Int) * j ≤ 2 ^ 27) fun i j => .int (i ^ j.toNat)) := opI fun _ _ _ _ _ _ _ hc q => pow_int hc.1 hc.2 q
/-- set(t), t a tuple of ints -/
theorem cr_setT (hc : X.calm = true) : CallR X (.type "set") (fun xs H Q => ∃ (l : Addr) (ns : List Int), xs = [.ref l] ∧ SqT X.K H l (ns.map V.int) ∧ ns.length ≤ 1000 ∧
    ∀ (p : Addr) (c : Nat), H p = none → Q (.ref p) (upd H p (SetO X.w p (fun j => decide (j ∈ ns)) c))) := by
  intro pins s σ H xs us Q I r h
  obtain ⟨l, ns, rfl, hq, hl, q⟩ := h
  obtain ⟨u, rfl, ru⟩ := vals1 r
  obtain rfl : u = Value.ref l := ru
  obtain ⟨its, rv, pt, hz⟩ := I.tuple hq
  refine call_set_tupI ns (I.ok.hd hc) (show s.heap.IsTuple l its.toArray from pt) (ints_of_vals rv) (by unfold scanBound; omega) fun h' tk c R1 hcn k => ?_
  exact ⟨.ref _, _, I.laid (t' := tk) k (Nat.le_refl _) (setO_new R1), rfl, q _ c (I.hok.fresh (Nat.le_refl _))⟩
end

/-! ### the same rules with the written part as a letter (for comprehensions) -/
section
variable {X : Cx} (K : PySem.W.Frag)
theorem ix_listK (h : X.K = K := by rfl) : IxR X (rIxL K) := h ▸ ix_list
theorem ix_tupK (h : X.K = K := by rfl) : IxR X (rIxT K) := h ▸ ix_tup
theorem op_inK (h : X.K = K := by rfl) : OpR X (compareOp .In) (rIn K false) := h ▸ op_in_seq
theorem op_notInK (h : X.K = K := by rfl) : OpR X (compareOp .NotIn) (rIn K true) := h ▸ op_notIn_seq
def rLenK (K : PySem.W.Frag) : List V → Hp → VK → Prop := fun xs H Q => ∃ p ys, xs = [.ref p] ∧ (SqL K H p ys ∨ SqT K H p ys) ∧ Q (.int ys.length) H
theorem call_lenK (h : X.K = K := by rfl) : CallR X (.builtin "len") (rLenK K) := h ▸ call_len_seq
def rReprK (K : PySem.W.Frag) : List V → Hp → VK → Prop := fun xs H Q => ∃ v d, xs = [v] ∧ Dp K H v d ∧ Sh 60 80000 d ∧ Q (.str d.shown) H
theorem call_reprK (gd : X.A.guards = some []) (hu : X.A.units + 66 < cLine) (h : X.K = K := by rfl) : CallR X (.builtin "repr") (rReprK K) := h ▸ call_reprD gd hu
theorem call_isiK1 (h : X.K = K := by rfl) : CallR X (.builtin "isinstance") (rIsi K) := h ▸ call_isi
def rTupleK (K : PySem.W.Frag) : List V → Hp → VK → Prop := fun xs H Q => ∃ p ys, xs = [.ref p] ∧ ((SqL K H p ys ∧ ∀ l, H l = none → Q (.ref l) (upd H l (.tup ys))) ∨ (SqT K H p ys ∧ Q (.ref p) H))
theorem call_tupleK (h : X.K = K := by rfl) : CallR X (.type "tuple") (rTupleK K) := h ▸ call_tuple_of
def rListK (K : PySem.W.Frag) : List V → Hp → VK → Prop := fun xs H Q => ∃ p ys, xs = [.ref p] ∧ (SqL K H p ys ∨ SqT K H p ys) ∧ ∀ l, H l = none → Q (.ref l) (upd H l (.lst ys))
theorem call_listK (h : X.K = K := by rfl) : CallR X (.type "list") (rListK K) := h ▸ call_list_of
theorem op_eqDK (hu : X.A.units + 64 < cLine) (h : X.K = K := by rfl) : OpR X (compareOp .Eq) (rEqD K) := h ▸ op_eqD hu
theorem op_neDK (hu : X.A.units + 64 < cLine) (h : X.K = K := by rfl) : OpR X (compareOp .NotEq) (rNeD K) := h ▸ op_neD hu
end
end Ef
namespace Ef
open PySem PySem.Spec PyProof.Rows L2
/-! ### tuples: sums, parts, the other way round -/
theorem Same.seqT {K : PySem.W.Frag} {H H' : Hp} {a : Addr} {xs : List V} (e : Same H H') (h : SqT K H a xs) : SqT K H' a xs := by
  rcases h with (h | ⟨o, h⟩) | h
  · exact .inl (.inl (e _ _ h))
  · exact .inl (.inr ⟨o, e _ _ h⟩)
  · exact .inr h
theorem But.seqT {K : PySem.W.Frag} {p a : Addr} {H H' : Hp} {xs : List V} (e : But p H H') (n : ∀ o, H p = some o → a = p → False) (h : SqT K H a xs) : SqT K H' a xs := by
  rcases h with (h | ⟨o, h⟩) | h
  · exact .inl (.inl (e _ _ (fun z => n _ (z ▸ h) z) h))
  · exact .inl (.inr ⟨o, e _ _ (fun z => n _ (z ▸ h) z) h⟩)
  · exact .inr h
/-- t + u -/
def rCatS (K : PySem.W.Frag) : R2 := fun x y H Q => ∃ a b xs ys, x = .ref a ∧ y = .ref b ∧ SqT K H a xs ∧ SqT K H b ys ∧ xs.length + ys.length ≤ sizeLine ∧ ∀ p H', Same H H' → SqT K H' p (xs ++ ys) → Q (.ref p) H'
/-- t[lo:hi] -/
def rSlS (K : PySem.W.Frag) : V → Option Int → Option Int → Hp → VK → Prop := fun x lo hi H Q => ∃ a xs, x = .ref a ∧ SqT K H a xs ∧ ∀ p H', Same H H' → SqT K H' p (cutV xs lo hi) → Q (.ref p) H'
theorem cut_whole {xs : List V} {lo hi : Option Int} (h : HT.sIx xs.length 0 lo = 0 ∧ HT.sIx xs.length xs.length hi = xs.length) : cutV xs lo hi = xs := by
  unfold cutV
  rw [h.1, h.2]
  show (xs.drop 0).take (xs.length - 0) = xs
  rw [List.drop_zero, Nat.sub_zero]
  exact List.take_length
section
variable {X : Cx} (K : PySem.W.Frag)
theorem op_catS (h : X.K = K := by rfl) : OpR X (binaryOp .Add) (rCatS K) := by
  subst h
  intro pins s σ H x y v u Q I rx ry h
  obtain ⟨a, b, xs, ys, rfl, rfl, ha, hb, hz, q⟩ := h
  refine op_catA pins s σ H _ _ v u Q I rx ry ⟨a, b, xs, ys, rfl, rfl, ha, hb, hz, fun z => ?_, fun _ z => ?_, fun _ _ p np => ?_⟩
  · subst z
    exact q b H (Same.refl H) hb
  · subst z
    refine q a H (Same.refl H) ?_
    rw [List.append_nil]
    exact ha
  · exact q p _ (same_new np) (SqT.of upd_same)
theorem sl_tupS (h : X.K = K := by rfl) : SlR X (rSlS K) := by
  subst h
  intro pins s σ H x v vl vu lo hi sl Q I rx hs pl pu h
  obtain ⟨a, xs, rfl, hx, q⟩ := h
  refine sl_tupA pins s σ H _ v vl vu lo hi sl Q I rx hs pl pu ⟨a, xs, rfl, hx, fun z => ?_, fun _ p np => ?_⟩
  · refine q a H (Same.refl H) ?_
    rw [cut_whole z]
    exact hx
  · exact q p _ (same_new np) (SqT.of upd_same)
end
theorem fm_congr {α β : Type} {f g : α → Option β} : ∀ l : List α, (∀ x ∈ l, f x = g x) → l.filterMap f = l.filterMap g
  | [], _ => rfl
  | x :: r, h => by
    have h1 := h x List.mem_cons_self
    have h2 := fm_congr r fun y hy => h y (List.mem_cons_of_mem _ hy)
    cases e : f x with
    | none => rw [List.filterMap_cons_none e, List.filterMap_cons_none (h1 ▸ e), h2]
    | some b => rw [List.filterMap_cons_some e, List.filterMap_cons_some (h1 ▸ e), h2]
theorem range_pick {α : Type} : ∀ (n : Nat) (ys : List α), ys.length = n → (List.range n).filterMap (fun m => ys[m]?) = ys
  | 0, ys, h => by
    rw [List.length_eq_zero_iff.mp h]
    rfl
  | n + 1, ys, h => by
    have hne : ys ≠ [] := fun z => by
      rw [z] at h
      cases h
    have hl : ys.dropLast.length = n := by
      rw [List.length_dropLast]
      omega
    have e : ys = ys.dropLast ++ [ys.getLast hne] := (List.dropLast_concat_getLast hne).symm
    rw [List.range_succ, List.filterMap_append]
    have e1 : (List.range n).filterMap (fun m => ys[m]?) = ys.dropLast := by
      have e3 : (List.range n).filterMap (fun m => ys[m]?) = (List.range n).filterMap (fun m => ys.dropLast[m]?) := by
        refine fm_congr _ fun m hm => ?_
        have hm' : m < ys.dropLast.length := by
          rw [hl]
          exact List.mem_range.mp hm
        have e4 : (ys.dropLast ++ [ys.getLast hne])[m]? = ys.dropLast[m]? := List.getElem?_append_left hm'
        rw [← e4, List.dropLast_concat_getLast hne]
      rw [e3]
      exact range_pick n ys.dropLast hl
    have e2 : [n].filterMap (fun m => ys[m]?) = [ys.getLast hne] := by
      have : ys[n]? = some (ys.getLast hne) := by
        rw [List.getLast_eq_getElem hne, ← List.getElem?_eq_getElem]
        congr 1
        omega
      rw [List.filterMap_cons_some this]
      rfl
    rw [e1, e2]
    exact e.symm
theorem pick_back (xs : Array Value) : ((List.range xs.size).filterMap fun (m : Nat) => xs[(((xs.size : Int) - 1) + (m : Int) * (-1)).toNat]?).toArray = xs.toList.reverse.toArray := by
  congr 1
  have h : xs.toList.reverse.length = xs.size := by
    rw [List.length_reverse, Array.length_toList]
  rw [← range_pick xs.size xs.toList.reverse h]
  refine fm_congr _ fun m hm => ?_
  have hm' : m < xs.size := List.mem_range.mp hm
  have e : (((xs.size : Int) - 1) + (m : Int) * (-1)).toNat = xs.size - 1 - m := by omega
  rw [e, List.getElem?_reverse (by rw [Array.length_toList]; exact hm'), Array.length_toList, Array.getElem?_toList]
section
variable {prog : Program} {w : World} {A : Around} {E : Value → Shared → Prop} {s : Shared}
theorem tuple_back {t sl : Addr} {items : Array Value} {vl vu vs : Value} {Q : Value → Shared → Prop} (ht : IsTup s.heap t items) (hs : s.heap.IsSliceOf sl vl vu vs) (pl : PySem.IsPart vl none) (pu : PySem.IsPart vu none) (ps : PySem.IsPart vs (some (-1)))
    (h : Q (.ref s.heap.objs.size) { s with heap := s.heap.push { cls := .type "tuple", data := .seq items.toList.reverse.toArray } })
    (hsz : items.size ≤ sizeLine) : wpAny (model prog w) A (getItem (.ref t) (.ref sl)) Q E s := by
  have hfit : sizeOk (.seq items.toList.reverse.toArray) := by
    show items.toList.reverse.toArray.size ≤ sizeLine
    rw [List.size_toArray, List.length_reverse, Array.length_toList]
    exact hsz
  obtain ⟨os, hos, hcs, hds⟩ := id hs
  have tys : s.TypeIs (.ref sl) "slice" := ⟨os, hos, hcs⟩
  unfold getItem
  try with_reducible refine wpAny_holding ?_
  first | refine wpAny_bind (wpAny_pure ?_) | skip
  refine wpAny_bind (wpAny_sequenceKey ht.typeIs (by decide) ?_)
  refine wpAny_bind (wpAny_callSpecial?_slot (name := Str.ofString "__getitem__") ht.typeIs PyProof.Rows.slot_tuple_getitem
    (wpAny_call_entry PyProof.Rows.slot_tuple_getitem ht.typeIs PyProof.Rows.entry_tuple_getitem ?_ (PyProof.Rows.args_tuple_getitem _ _)))
  show wpAny _ _ (Builtin.Tuple.tupleItemsOf (.ref t) >>= _) _ _ s
  refine wpAny_bind (PyProof.Rows.tupleItemsOf_ ht ?_)
  refine wpAny_bind (wpAny_typeOf tys ?_)
  rw [if_pos (by decide)]
  have look : ∀ {B : Around} {E : Value → Shared → Prop} {R : Int × Int × Nat → Shared → Prop}, R (((items.size : Int) - 1), -1, items.size) s → wpAny (model prog w) B (Builtin.Slice.sliceApplied (.ref sl) (pure (items.size : Int))) R E s := fun {B E R} hR => by
    unfold Builtin.Slice.sliceApplied Builtin.Slice.sliceFields
    refine wpAny_bind (wpAny_bind (wpAny_field hos hds (x := vl) rfl (wpAny_bind (wpAny_field hos hds (x := vu) rfl (wpAny_bind (wpAny_field hos hds (x := vs) rfl (wpAny_pure ?_)))))))
    refine wpAny_bind (HT.slicePart_ ps ?_)
    show wpAny _ _ (if ((-1 : Int) == 0) = true then _ else _) _ _ s
    rw [if_neg (by decide)]
    refine wpAny_bind (HT.slicePart_ pl (wpAny_bind (HT.slicePart_ pu (wpAny_bind (wpAny_pure ?_)))))
    show wpAny _ _ (pure (((items.size : Int) - 1), (-1 : Int), Builtin.Slice.slicePlaces ((items.size : Int) - 1) (-1) (-1))) _ _ s
    have e : Builtin.Slice.slicePlaces ((items.size : Int) - 1) (-1) (-1) = items.size := by
      unfold Builtin.Slice.slicePlaces
      rw [if_neg (by decide)]
      by_cases c : ((items.size : Int) - 1) > -1
      · rw [if_pos c, show -(-1 : Int) = 1 from rfl, Int.ediv_one]
        omega
      · rw [if_neg c]
        omega
    rw [e]
    exact wpAny_pure hR
  refine wpAny_bind (look ?_)
  have no : ¬ ((((items.size : Int) - 1) == 0 && (-1 : Int) == 1 && items.size == items.size) = true) := by
    intro z
    rw [Bool.and_eq_true, Bool.and_eq_true] at z
    exact absurd z.1.2 (by decide)
  show wpAny _ _ (if (((items.size : Int) - 1) == 0 && (-1 : Int) == 1 && items.size == items.size) = true then _ else _) _ _ s
  rw [if_neg no, pick_back]
  first
    | exact wpAny_bind (m := Builtin.Tuple.tupleExact _) (wpAny_newObj_type (wpAny_pure ⟨_, rfl, wpAny_pure h⟩) hfit)
    | exact wpAny_bind (m := Builtin.Tuple.tupleExact _) (wpAny_newObj_type (wpAny_bind (wpAny_pure (wpAny_pure ⟨_, rfl, wpAny_pure h⟩))) hfit)
    | exact wpAny_bind (wpAny_bind (m := Builtin.Tuple.tupleExact _) (wpAny_newObj_type (wpAny_pure (wpAny_pure ⟨_, rfl, wpAny_pure h⟩)) hfit))
    | exact wpAny_bind (wpAny_bind (m := Builtin.Tuple.tupleExact _) (wpAny_newObj_type (wpAny_pure ⟨_, rfl, wpAny_pure h⟩) hfit))
end
/-! ### t[::-1] -/
def tRevT (K : PySem.W.Frag) (te : TE) : TE := fun σ H Q => te σ H fun x H1 => ∃ a xs, x = .ref a ∧ SqT K H1 a xs ∧ ∀ p, H1 p = none → Q (.ref p) (upd H1 p (.tup xs.reverse))
theorem pe_revT {X : Cx} {e : Expr} {te : TE} {k : Nat} {p1 p2 p3 pos : Pos} (he : PE X e te) : PE X (.Subscript e (.Slice none none (some (.UnaryOp .USub (.Constant (.int 1) k p1) p2)) p3) pos) (tRevT X.K te) := by
  refine ⟨fun pins s σ H Q I h => ?_⟩
  refine Subscript_ (thn (he.run pins s σ H _ I h) fun v s1 z1 => ?_)
  obtain ⟨x, H1, I1, r1, a, xs, ex, hx, q⟩ := z1
  subst ex
  cases r1
  have hst : PO X (some (.UnaryOp .USub (.Constant (.int 1) k p1) p2)) (tPart (tUn (rU fun i => .int (-i)) (tC (.int 1)))) := po_some (pe_un un_neg pe_int)
  refine wpAny_Slice (thn (po_none.run pins s1 σ H1 (fun o H2 => o = none ∧ H2 = H1) I1 ⟨rfl, rfl⟩) fun vl s2 z2 => ?_)
  obtain ⟨l, H2, I2, pl, rfl, rfl⟩ := z2
  refine thn (po_none.run pins s2 σ H2 (fun o H3 => o = none ∧ H3 = H2) I2 ⟨rfl, rfl⟩) fun vu s3 z3 => ?_
  obtain ⟨u, H3, I3, pu, rfl, rfl⟩ := z3
  refine thn (hst.run pins s3 σ H3 (fun o H4 => o = some (-1) ∧ H4 = H3) I3 ⟨1, rfl, -1, rfl, rfl, rfl⟩) fun vs s4 z4 => ?_
  obtain ⟨o, H4, I4, ps, rfl, rfl⟩ := z4
  have I5 : Inv X pins σ H4 { s4 with heap := s4.heap.push { cls := .type "slice", data := .fields #[vl, vu, vs] } } := I4.kept (t' := s4.toks) fun b ob z => Heap.get?_push_of_some _ z
  obtain ⟨its, r, ht, hz⟩ := I5.tuple hx
  show wpAny (model X.prog X.w) X.A (subscriptTail e (.Slice none none (some (.UnaryOp .USub (.Constant (.int 1) k p1) p2)) p3) (.ref a) (.ref s4.heap.objs.size)) (EP X pins σ Q) X.xe _
  refine tail_any (ops := [.ref a, .ref s4.heap.objs.size]) ht.typeIs (PyProof.Rows.slot_tuple_getitem.lookup) ?_ (by with_unfolding_all rfl)
  refine tuple_back ht (Heap.IsSliceOf.new _ vl vu vs) pl pu ps ?_ (by rw [List.size_toArray, ← r.length]; exact hz)
  refine ⟨.ref _, _, I5.laid (t' := s4.toks) (o := .tup xs.reverse) (fun b ob z => Heap.get?_push_of_some _ z) (Nat.le_refl _) ?_, rfl, q _ (I5.hok.fresh (Nat.le_refl _))⟩
  exact ⟨by rw [List.length_reverse]; exact hz, _, r.reverse, IsTup.new _ _⟩
end Ef
namespace Ef
open PySem PySem.Spec PyProof.Rows L2
/-! ### values of all sorts -/
mutual
theorem Dp.mono {K : PySem.W.Frag} {H H' : Hp} (s : Same H H') : ∀ {v : V} {d : PyData}, Dp K H v d → Dp K H' v d
  | _, _, .non => .non
  | _, _, .bl b => .bl b
  | _, _, .int i => .int i
  | _, _, .str x => .str x
  | _, _, .lst h t => .lst (s.seq h) (DpAll.mono s t)
  | _, _, .tup h t => .tup (Same.seqT s h) (DpAll.mono s t)
theorem DpAll.mono {K : PySem.W.Frag} {H H' : Hp} (s : Same H H') : ∀ {vs : List V} {ds : List PyData}, DpAll K H vs ds → DpAll K H' vs ds
  | _, _, .nil => .nil
  | _, _, .cons h t => .cons (Dp.mono s h) (DpAll.mono s t)
end
theorem DpAll.app {K : PySem.W.Frag} {H : Hp} : ∀ {xs ys : List V} {ds es : List PyData}, DpAll K H xs ds → DpAll K H ys es → DpAll K H (xs ++ ys) (ds ++ es)
  | _, _, _, _, .nil, t => t
  | _, _, _, _, .cons h r, t => .cons h (DpAll.app r t)
theorem dpAll_at {K : PySem.W.Frag} {H : Hp} : ∀ {xs : List V} {ds : List PyData}, DpAll K H xs ds → ∀ {i : Nat} {x : V}, xs[i]? = some x → ∃ d, ds[i]? = some d ∧ Dp K H x d
  | _, _, .nil, _, _, h => by cases h
  | _, _, .cons h _, 0, x, e => ⟨_, rfl, by rw [← Option.some.inj e]; exact h⟩
  | _, _, .cons _ t, i + 1, x, e => by
    rw [List.getElem?_cons_succ] at e ⊢
    exact dpAll_at t e
theorem dpAll_len {K : PySem.W.Frag} {H : Hp} : ∀ {xs : List V} {ds : List PyData}, DpAll K H xs ds → ds.length = xs.length
  | _, _, .nil => rfl
  | _, _, .cons _ t => congrArg (· + 1) (dpAll_len t)
theorem ShAll.app {dp w1 w2 : Nat} : ∀ {ds es : List PyData}, ShAll dp w1 ds → ShAll dp w2 es → ShAll dp (w1 + w2) (ds ++ es)
  | [], es, _, t => t.mono (Nat.le_refl _) (by omega)
  | d :: r, es, h, t => by
    have hc : (d.canLay0 && PyData.canLayAll0 r) = true := h.can
    have hs : (d.showable && PyData.showableAll r) = true := h.shw
    have hl : (d.leavesShort 200 && PyData.leavesShortAll 200 r) = true := h.lvs
    have hw : d.weight + 1 + PyData.weightAll r ≤ w1 := h.wgt
    have hd : max d.depth (PyData.depthAll r) ≤ dp := h.dep
    rw [Bool.and_eq_true] at hc hs hl
    rw [Nat.max_le] at hd
    have h1 : Sh dp d.weight d := ⟨hc.1, hd.1, hs.1, hl.1, Nat.le_refl _⟩
    have h2 : ShAll dp (PyData.weightAll r) r := ⟨hc.2, hd.2, hs.2, hl.2, Nat.le_refl _⟩
    exact (ShAll.cons h1 (ShAll.app h2 t)).mono (Nat.le_refl _) (by omega)
/-- all but what stands at p -/
def hide (p : Addr) (H : Hp) : Hp := fun b => if b = p then none else H b
theorem hide_ne {p b : Addr} {H : Hp} (n : b ≠ p) : hide p H b = H b := if_neg n
theorem hide_same (p : Addr) (H : Hp) : Same (hide p H) H := fun b o e => by
  by_cases c : b = p
  · unfold hide at e
    rw [if_pos c] at e
    cases e
  · rw [hide_ne c] at e
    exact e
theorem But.hide {p : Addr} {H H' : Hp} (s : But p H H') : Same (Ef.hide p H) (Ef.hide p H') := fun b o e => by
  by_cases c : b = p
  · unfold Ef.hide at e
    rw [if_pos c] at e
    cases e
  · rw [hide_ne c] at e ⊢
    exact s b o c e
theorem hide_lst {K : PySem.W.Frag} {p a : Addr} {H : Hp} {xs : List V} (n : a ≠ p) (h : H a = some (.lst xs)) : SqL K (hide p H) a xs := SqL.of (by rw [hide_ne n]; exact h)
theorem hide_tup {K : PySem.W.Frag} {p a : Addr} {H : Hp} {xs ys : List V} (hp : H p = some (.lst ys)) (h : SqT K H a xs) : SqT K (hide p H) a xs := by
  rcases h with (h | ⟨o, h⟩) | h
  · have n : a ≠ p := fun z => by
      rw [z, hp] at h
      cases h
    exact .inl (.inl (by rw [hide_ne n]; exact h))
  · have n : a ≠ p := fun z => by
      rw [z, hp] at h
      cases h
    exact .inl (.inr ⟨o, by rw [hide_ne n]; exact h⟩)
  · exact .inr h
/-- data, or an empty dict -/
def ItemV (K : PySem.W.Frag) (H : Hp) (v : V) (d : PyData) : Prop := (Dp K H v d ∧ Sh 60 80000 d) ∨ (d = .dict [] ∧ ∃ p, v = .ref p ∧ H p = some (.dK []))
theorem ItemV.mono {K : PySem.W.Frag} {H H' : Hp} {v : V} {d : PyData} (s : Same H H') (h : ItemV K H v d) : ItemV K H' v d := by
  rcases h with ⟨h, h2⟩ | ⟨e, p, e2, h⟩
  · exact .inl ⟨Dp.mono s h, h2⟩
  · exact .inr ⟨e, p, e2, s _ _ h⟩
def tyN : PyData → String
  | .none => "NoneType"
  | .bool _ => "bool"
  | .int _ => "int"
  | .str _ => "str"
  | .list _ => "list"
  | .tuple _ => "tuple"
  | .dict _ => "dict"
theorem Dp.ty {K : PySem.W.Frag} {H : Hp} {v : V} {d : PyData} (h : Dp K H v d) : TyX K H v (.type (tyN d)) := by
  cases h with
  | non => exact .base .non
  | bl b => exact .base (.bl b)
  | int i => exact .base (.int i)
  | str x => exact .base (.str x)
  | lst h _ =>
    rcases h with (h | ⟨o, h⟩) | ⟨o, its, n, h1, h2, _⟩
    · exact .base (.lst h)
    · exact .base (.frz h)
    · exact .kList h1 h2
  | tup h _ =>
    rcases h with (h | ⟨o, h⟩) | ⟨o, its, n, h1, h2, _⟩
    · exact .base (.tup h)
    · exact .fTuple h
    · exact .kTuple h1 h2
theorem ItemV.ty {K : PySem.W.Frag} {H : Hp} {v : V} {d : PyData} (h : ItemV K H v d) : TyX K H v (.type (tyN d)) := by
  rcases h with ⟨h, _⟩ | ⟨rfl, p, rfl, h⟩
  · exact Ef.Dp.ty h
  · exact .base (.dK h)
section
variable {X : Cx} (K : PySem.W.Frag)
def rReprI (K : PySem.W.Frag) : List V → Hp → VK → Prop := fun xs H Q => ∃ v d, xs = [v] ∧ ItemV K H v d ∧ Q (.str d.shown) H
theorem call_reprI (gd : X.A.guards = some []) (hu : X.A.units + 66 < cLine) (h : X.K = K := by rfl) : CallR X (.builtin "repr") (rReprI K) := by
  subst h
  intro pins s σ H xs us Q I r h
  obtain ⟨v, d, rfl, hI, q⟩ := h
  rcases hI with ⟨hD, hS⟩ | ⟨rfl, p, rfl, hp⟩
  · exact call_reprD gd hu pins s σ H _ us Q I r ⟨v, d, rfl, hD, hS, q⟩
  · obtain ⟨u, rfl, ru⟩ := vals1 r
    obtain rfl : u = Value.ref p := ru
    obtain ⟨_, hsys, vs, kv, o, es, ep, ho, hx, hd, hk, hpr, hn⟩ := dk_of I.hok hp
    have e1 : vs = [] := by
      cases kv
      rfl
    subst e1
    have e2 : es.toList = [] := by
      generalize es.toList = l at hpr ⊢
      cases hpr
      rfl
    have dep : PyData.depth (.dict []) ≤ 2 := by decide
    have rd : Reads s.heap (.ref p) (.dict []) (p :: [] ++ []) := by
      refine .dict ho hx.1 hd ?_ ?_
      · rw [e2]
        exact .nil
      · rw [e2]
        exact .nil
    refine repr_of_reads' rd rfl (fun _ hm => ?_) gd (by omega) (fun _ _ e => e) (fun h' u tk hk => ?_) (by decide +kernel)
    · have e3 : sysModules = p := by simpa using hm
      rw [← e3] at hsys
      exact absurd hsys (by simp)
    · exact ⟨.str _, H, I.kept hk, ⟨u, rfl⟩, q⟩
end
end Ef
set_option maxHeartbeats 4000000
namespace Ef
open PySem PySem.Spec PyProof.Rows L2
/-! ### Base.__init__(self, ..) where Base is an own class without an __init__ of its own -/
section
variable {X : Cx} {e : Expr} {es : List Expr} {ta : TA} {x : Str} {p1 p2 pos : Pos} {B : Addr}
theorem pe_baseInit {pl : Sem Bool} (hg : Gl X x) (hm : X.mg x = some (.ref B))
    (h1 : PySem.W.specialIn X.K (.ref B) "__getattribute__" = some (some (.builtin "type.__getattribute__")))
    (h2 : PySem.W.typeIn X.K (.ref B) = some (.type "type")) (h3 : PySem.W.readsIn X.K B (.type "type") = true)
    (h4 : PySem.W.findCls X.K (.ref B) (.type "type") "__init__" = some (.val (.builtin "ValueError.__init__"))) (ha : PA X (e :: es) ta)
    (a1 : eval (.Call (.Attribute (.Name x p1) "__init__" p2) (e :: es) [] pos) X.env = (do
      let bv ← eval (.Name x p1) X.env
      standAt p2.atName
      let (g, first) ← holding [bv] (getMethod bv "__init__" pl)
      callWith pos g first (backTo pos (starEach (e :: es) X.env)) (backToKw pos (keywordEach [] X.env))) := by rfl)
    (a2 : starEach (e :: es) X.env = (false, eval e X.env) :: starEach es X.env := by rfl)
    (a3 : (backTo pos (starEach es X.env)).any (fun z => z.1) = false := by rfl) (a4 : (x == ("__debug__" : Str)) = false := by decide) :
    PE X (.Call (.Attribute (.Name x p1) "__init__" p2) (e :: es) [] pos) (tVeI X.K ta) := by
  refine ⟨fun pins s σ H Q I h => ?_⟩
  refine PySem.W.methodCall_KW (ld_glob I hg hm ?_ a4) a1
  obtain ⟨m, fr⟩ := I.fr
  refine PySem.W.method_of_cls fr I.ok.mod.kin h1 ?_
  refine PySem.W.cls_val fr I.ok.mod.kin h2 h3 h4 (by decide +kernel) ?_
  show wpAny _ _ (callWith pos (Value.builtin "ValueError.__init__") [] (backTo pos (starEach (e :: es) X.env)) []) _ _ _
  refine PyProof.Rows.callWith_method1 (thn (ha.run pos pins _ σ H _ (I.tok _) h) fun us s1 got => ?_) a2 a3
  obtain ⟨vs, H1, I1, r1, a, C, ws, rfl, hl, T, ea, q⟩ := got
  cases r1 with
  | @cons _ u0 _ ur ra rest =>
    obtain rfl : u0 = Value.ref a := ra
    refine oinit_ok T I1 ea ?_ fun s' J => ⟨.non, H1, J, rfl, q⟩
    have hl2 := Paired.length rest
    rw [sizeLine_eq]
    omega
end
/-! ### an exception that is kept as a value -/
/-- at a: an exception of the class cls, its dict at d -/
def exk (a : Addr) (cls : Value) (d : Option Addr) : HO := .ext fun h => ∃ oe vs, h.get? a = some oe ∧ oe.cls = cls ∧ oe.dict = d ∧ oe.data = .fields vs
theorem exk_ok {P : Program} {w : World} {H : Hp} {h : Heap} {a : Addr} {cls : Value} {d : Option Addr} {oe : Obj} {vs : Array Value} (he : h.get? a = some oe) (hc : oe.cls = cls) (hd : oe.dict = d) (hv : oe.data = .fields vs) : ObjOk P w H h a (exk a cls d) :=
  ⟨⟨oe, vs, he, hc, hd, hv⟩, ⟨oe, he⟩, fun h1 h2 z k => by
    obtain ⟨o, v, z1, z2⟩ := z
    exact ⟨o, v, k _ z1, z2⟩⟩
theorem exk_at {P : Program} {w : World} {H : Hp} {h : Heap} {a : Addr} {cls : Value} {d : Option Addr} (hok : HOk P w H h) (e : H a = some (exk a cls d)) : ∃ oe vs, h.get? a = some oe ∧ oe.cls = cls ∧ oe.dict = d ∧ oe.data = .fields vs := by
  have z : ObjOk P w H h a (.ext fun h => ∃ oe vs, h.get? a = some oe ∧ oe.cls = cls ∧ oe.dict = d ∧ oe.data = .fields vs) := hok a _ e
  exact z.1
theorem Inv_track {X : Cx} {pins : List (Addr × Obj)} {σ : L2.St} {H : Hp} {s : Shared} {a : Addr} {oe : Obj} {vs : Array Value} {cls : Value} {d : Option Addr} (I : L2.Inv X ((a, oe) :: pins) σ H s)
    (hc : oe.cls = cls) (hd : oe.dict = d) (hv : oe.data = .fields vs) (new : X.s_0.heap.get? a = none) (hp : ∀ p ∈ X.pn ++ pins, p.1 ≠ a) : L2.Inv X pins σ (upd H a (exk a cls d)) s := by
  obtain ⟨ha, na, nL, nF, nc⟩ := I.pin (a, oe) (List.mem_append_right _ List.mem_cons_self)
  have kp : ∀ {b : Addr} {u : HO}, H b = some u → upd H a (exk a cls d) b = some u := fun {b u} z => by
    rw [upd_ne (ne_of_none z na)]
    exact z
  refine ⟨I.ok, I.os, I.bare, ⟨I.base.keep, I.base.slot, fun b o z n hx => ?_, I.base.there, fun b xs z => kp (I.base.tups b xs z), fun b o u z => kp (I.base.frzs b o u z), fun b ps z => ?_⟩, I.loc, I.cell, ?_, fun y c z => ?_, fun p q => ?_, fun b o z => ?_, I.len⟩
  · rw [upd_ne (fun y => by rw [y, new] at z; cases z)]
    exact I.base.free b o z n hx
  · obtain ⟨more, z2⟩ := I.base.tbls b ps z
    exact ⟨more, kp z2⟩
  · rw [upd_ne nL.symm]
    exact I.free
  · have nca : c ≠ a := fun y2 => by
      obtain ⟨v, oc, z3, z4⟩ := I.cell y c z
      rw [y2, ha] at z3
      obtain rfl := Option.some.inj z3
      first
        | exact nc _ z4
        | exact nc _ z4.2
        | exact nc _ z4.1
    rw [upd_ne nca]
    exact I.freeC y c z
  · obtain ⟨z1, z2, z3, z4, z5⟩ := I.pin p (by
      rcases List.mem_append.mp q with q | q
      · exact List.mem_append_left _ q
      · exact List.mem_append_right _ (List.mem_cons_of_mem _ q))
    exact ⟨z1, by rw [upd_ne (hp p q)]; exact z2, z3, z4, z5⟩
  · by_cases hb : b = a
    · subst hb
      rw [upd_same] at z
      obtain rfl := Option.some.inj z
      exact exk_ok ha hc hd hv
    · rw [upd_ne hb] at z
      exact (I.hok b o z).stay (fun _ _ _ y => y) (fun c y => kp y) fun c xs y => kp y
/-- what 'except x as n: suite' wishes of an exception of the body, the exception being kept: slot i is n's -/
def wKeep (K : PySem.W.Frag) (c : Value) (i : Nat) (ts : Addr → Value → Option Addr → TS) (Wout : WX) (D : Ends) : WX := fun cls d σ H =>
  ∃ b, PySem.W.exmOne K cls c = some b ∧ (b = true → ∀ a, H a = none → ts a cls d { nx := fun σ' H' => D.nx (σ'.set i none) (upd H' a (exk a cls d)), rt := fun _ _ => False } (σ.set i (some (.ref a))) H) ∧
    (b = false → Wout cls d σ H)
section
variable {X : Cx} {x n : Str} {c : Value} {i : Nat} {body suite : List Stmt} {b₀ : Stmt} {np pos pos' : Pos} {tb : WX → TS} {ts : Addr → Value → Option Addr → TS} {Wout : WX}
theorem ps_try_keep (stk : X.stack = X.env :: X.outer) (frm : X.env.frame = some X.env.locals) (hex : X.ex = []) (hN : X.N.Nodup) (hi : X.N[i]? = some n) (hln : X.env.kindOf n = some .local) (nm : Names X x c) (tk : Takes X Wout)
    (hb : ∀ (W : WX) (pn : List (Addr × Obj)) (xe : Value → Shared → Prop), Takes (X.tr pn xe) W → PassesOwn (model X.prog X.w) X.A X.env xe → PSs (X.tr pn xe) body (tb W))
    (hsu : ∀ (a : Addr) (oe : Obj) (cls : Value) (d : Option Addr) (pn : List (Addr × Obj)), Zc cls d oe → (∃ vs, oe.data = .fields vs) → PSs (X.suite a ((a, oe) :: pn)) (b₀ :: suite) (ts a cls d)) :
    PS X (.Try body [.ExceptHandler (some (.Name x np)) (some n) (b₀ :: suite) pos'] [] [] pos) (fun D σ H => tb (wKeep X.K c i ts Wout D) D σ H) := by
  refine ⟨fun pins s σ H D I wish => ?_⟩
  have okX := I.ok
  have frs1 : X.A.frames = some (X.env :: X.outer) := by rw [okX.frames, stk]
  refine wpAny_Try_except ?_
  refine wpAny_mono ((hb (wKeep X.K c i ts Wout D) (X.pn ++ pins) (fun z s₁ => wpAny (model X.prog X.w) X.A (noteFrame z X.env) (fun _ s₂ => wpAny (model X.prog X.w) X.A (setFlight z none) (fun _ s₃ =>
    wpAny (model X.prog X.w) X.A (handleBy z X.env [.ExceptHandler (some (.Name x np)) (some n) (b₀ :: suite) pos']) (SP X pins D) X.xe s₃) X.xe s₂) X.xe s₁) (fun u s' air => ?_) PassesOwn.looking).run [] s σ H D (I.toTry _) wish) (fun fl s1 got => ?_) (fun z s1 got => got)
  · obtain ⟨a, B, sI, pins', σ', H', cls, d, rfl, J', nb, up, sky, na, os, ag, b, hb1, hyes, hno⟩ := air
    have J : L2.Inv X pins σ' H' sI := J'.ofTry okX
    have sky1 : Sky B (X.env :: X.outer) a (Zc cls d) X.env.locals s'.heap := by rw [← stk]; exact sky
    show wpAny (model X.prog X.w) X.A (noteFrame (.ref a) X.env) _ _ _
    refine Sky.land Zc.steady frs1 frm sky1 fun h3 fl3 up3 => ?_
    have J3 : L2.Inv X pins σ' H' { s' with heap := h3 } := J.landed nb fl3.1 (up.trans up3) os ag
    obtain ⟨oe3, vs3, he3, hz3, hd3⟩ := fl3.there
    have nfr : a ∉ frs (X.env :: X.outer) := fun hm => by
      obtain ⟨_, o', e', hnf⟩ := fl3.2.2.1.mem hm
      rw [he3] at e'
      cases e'
      exact hnf _ hd3
    have nL : a ≠ X.env.locals := fun z => nfr (List.mem_filterMap.mpr ⟨X.env, List.mem_cons_self, by rw [frm, z]⟩)
    have nF : a ∉ X.fs := fun hm => by
      obtain ⟨en, hen, y⟩ := List.mem_filterMap.mp hm
      exact nfr (List.mem_filterMap.mpr ⟨en, List.mem_cons_of_mem _ hen, y⟩)
    have newI : ∀ o, sI.heap.get? a = some o → False := fun o y => by
      have y2 := nb a o y (by rw [stk]; exact nfr)
      rw [fl3.2.1] at y2
      cases y2
    have new0 : X.s_0.heap.get? a = none := by
      cases y : X.s_0.heap.get? a with
      | none => rfl
      | some o =>
        obtain ⟨o', y2⟩ := J.base.there a o y (by rw [hex]; exact List.not_mem_nil)
        exact (newI o' y2).elim
    have apart : ∀ p ∈ X.pn ++ pins, p.1 ≠ a := fun p hp y => newI p.2 (by rw [← y]; exact (J.pin p hp).1)
    have S3 := J3.suite he3 hd3 na nL nF
    refine wpAny_handleBy_cons (codeAny_handlers_test ?_) (by intro y; cases y)
    have LT : PySem.W.Looks (model X.prog X.w) h3 (typeOf (.ref a)) cls := fun A Q E s k y => wpAny_typeOf_ref (k _ _ he3) (by rw [hz3.1]; exact y)
    have LM := PySem.W.exm_one (M := model X.prog X.w) (J3.kIn) LT hb1
    have asked : ∀ {Q : Value → Shared → Prop} {E : Value → Shared → Prop}, Q c { s' with heap := h3 } → wpAny (model X.prog X.w) (X.A.mark (some (.ref a))) (eval (.Name x np) X.env) Q E { s' with heap := h3 } := fun {Q E} y => by
      obtain ⟨hg, hdbg, hm | ⟨hm, hv, hnn⟩⟩ := nm
      · exact ld_glob (X := X.suite a ((a, oe3) :: (X.pn ++ pins))) S3 hg hm y hdbg
      · exact ld_blt (X := X.suite a ((a, oe3) :: (X.pn ++ pins))) S3 hg hm hv y hnn hdbg
    refine asked (LM.here ?_)
    cases b with
    | true =>
      refine codeAny_handlers_suite_as ?_
      refine HandSPX.lands_againZ fl3 fun h4 fl4 up4 => ?_
      have J4 : L2.Inv X pins σ' H' { s' with heap := h4 } := J.landed nb fl4.1 ((up.trans up3).trans up4) os ag
      obtain ⟨oe4, vs4, he4, hz4, hd4⟩ := fl4.there
      have S4 := J4.suite he4 hd4 na nL nF
      refine store_ok (X := X.suite a ((a, oe4) :: (X.pn ++ pins))) (v := .ref a) S4 hN hi (.inl hln) rfl (fun s5 S5 => ?_) (.inr hln)
      refine wpAny_mono ((hsu a oe4 cls d (X.pn ++ pins) hz4 ⟨_, hd4⟩).run [] s5 _ H' _ S5 (hyes rfl a na)) (fun fl s6 got => ?_) (fun _ _ y => False.elim y)
      cases fl with
      | next =>
        obtain ⟨σ6, H6, S6, q6⟩ := got
        have P6 := S6.pin (a, oe4) (List.mem_append_left _ List.mem_cons_self)
        have J6 : L2.Inv X ((a, oe4) :: pins) σ6 H6 s6 := (S6.unsuite okX).pins_of fun p hp => by
          rcases List.mem_cons.mp hp with rfl | hp
          · exact P6
          · exact (S6.unsuite okX).pin p (List.mem_append_right _ hp)
        exact gone_ok J6 hN hi hln fun s7 J7 => ⟨_, _, Inv_track J7 hz4.1 hz4.2 hd4 new0 apart, q6⟩
      | brk =>
        obtain ⟨σ6, H6, S6, q6⟩ := got
        exact q6.elim
      | cont =>
        obtain ⟨σ6, H6, S6, q6⟩ := got
        exact q6.elim
      | ret u =>
        obtain ⟨v6, σ6, H6, S6, r6, q6⟩ := got
        exact q6.elim
    | false =>
      show wpAny _ X.A (handleBy (.ref a) X.env []) _ _ _
      refine wpAny_handleBy_nil ?_
      obtain ⟨k1, k2, k3, oe, vs, T, oT, ts', he, hz, hd, h1, hr⟩ := id fl3
      unfold PySem.passOn
      refine wpAny_bind (wpAny_field he hd h1 ?_)
      rw [if_neg (show ¬ ((Value.ref T == Value.none) = true) from by simp)]
      have fin : wpAny (model X.prog X.w) X.A (setFlight (.ref a) X.env.frame) (fun _ s4 => wpAny (model X.prog X.w) X.A (throw (.ref a) : Sem Flow) (SP X pins D) X.xe s4) X.xe { s' with heap := h3 } := by
        rw [frm]
        refine HandSPX.setFlight_upZ fl3 fun h4 hh4 up4 => wpAny_throw (tk _ _ ?_)
        exact ⟨a, B, sI, pins, σ', H', cls, d, rfl, J, nb, (up.trans up3).trans up4, .inr (.inr (by rw [stk]; exact hh4)), na, os, ag, hno rfl⟩
      first
        | exact wpAny_bind (wpAny_pure (wpAny_bind fin))
        | exact wpAny_bind fin
  · cases fl with
    | next =>
      obtain ⟨σ', H', J', q⟩ := got
      exact wpAny_execs_nil ⟨σ', H', J'.ofTry okX, q⟩
    | brk =>
      obtain ⟨σ', H', J', q⟩ := got
      exact ⟨σ', H', J'.ofTry okX, q⟩
    | cont =>
      obtain ⟨σ', H', J', q⟩ := got
      exact ⟨σ', H', J'.ofTry okX, q⟩
    | ret u =>
      obtain ⟨v, σ', H', J', r, q⟩ := got
      exact ⟨v, σ', H', J'.ofTry okX, r, q⟩
end
theorem takesF {X : Cx} : Takes X (fun _ _ _ _ => False) := fun _ _ x => by
  obtain ⟨_, _, _, _, _, _, _, _, _, _, _, _, _, _, _, _, z⟩ := x
  exact z.elim
theorem passF {X : Cx} : Passes (L2.CX X.prog X.w) X (fun _ _ _ => False) := fun _ _ _ _ _ _ _ x => by
  obtain ⟨_, _, _, _, _, _, _, _, _, _, _, _, z⟩ := x
  exact z.elim
/-! ### what is asked of an exception that was kept -/
section
open PySem.W PySem.Calls
variable {prog : Program} {w : World} {A : Around} {E : Value → Shared → Prop} {s : Shared} {K : PySem.W.Frag} {y D : Addr} {oy : Obj} {od : Option Obj}
theorem class_of_exc {Q : Option Value → Shared → Prop} (T : ExcC K D) (kin : K.In s.heap) (I : InstAt s.heap y oy D od) (hod : od.isSome = true) (h : Q (some (.ref D)) { s with toks := s.toks + 1 }) :
    wpAny (model prog w) A (getAttr? (.ref y) "__class__") Q E s := by
  obtain ⟨oo, rfl⟩ := Option.isSome_iff_exists.mp hod
  have ff : findObj K D (some oo) "__class__" = some (.bind (.builtin "getset_descriptor.__get__") (.builtin "object.__class__")) := findObj_data (by obtain ⟨cd, hc, _⟩ := any_some T.hd; rw [hc]; rfl) T.ha T.hn T.ht
  obtain ⟨hp, g, d, t, os⟩ := s
  have T0 := I.type (M := model prog w)
  have T1 := looks_findIn (M := model prog w) kin T.hg
  have T2 := looks_findIn (M := model prog w) kin T.hk
  have T3 := looks_find (M := model prog w) kin I ff
  have inB : Looks (model prog w) hp (isInstance (.ref y) (.type "BaseException")) true := T0.andThen (looks_subIn kin T.hs)
  have b0 : (false && onTheHeap (Value.builtin "BaseException.__getattribute__")) = false := rfl
  have b2 : (Value.builtin "BaseException.__getattribute__" == Value.builtin "object.__getattribute__") = false := by decide +kernel
  have b1 : (onTheHeap (Value.ref D) && Value.builtin "BaseException.__getattribute__" == Value.builtin "object.__getattribute__") = false := by rw [b2]; rfl
  unfold getAttr? getAttrBy? getAttrBy
  refine wpAny_bind (wpAny_mkText (wpAny_bind (wpAny_attempt (wpAny_holding (wpAny_bind (T0.at (wpAny_bind (T1.at ?_))))))))
  show wpAny _ _ (if (onTheHeap (Value.ref D) && Value.builtin "BaseException.__getattribute__" == Value.builtin "object.__getattribute__") = true then _ else _) _ _ ⟨hp, g, d, t + 1, os⟩
  rw [b1, if_neg Bool.false_ne_true]
  unfold getAttrByItsOwn hookBefore
  refine wpAny_bind ?_
  rw [if_pos (show onTheHeap (Value.ref D) = true from rfl)]
  refine T2.at ?_
  refine wpAny_bind (wpAny_attempt (wpAny_holding ?_))
  unfold callGetattribute
  rw [b0, if_neg Bool.false_ne_true]
  unfold boundAndCalled
  rw [PySem.F.excAttr_ValueError.ga.bind (.ref y)]
  refine wpAny_bind (wpAny_pure ?_)
  show wpAny _ _ (call (.builtin "BaseException.__getattribute__") [.ref y, .str "__class__" t]) _ _ _
  refine wpAny_call (codeAny_call_builtin PySem.F.excAttr_ValueError.ga.plain PySem.F.entry_bexc_ga ?_)
  refine @check_slot (model prog w) _ _ ⟨hp, g, d, t + 1, os⟩ "BaseException.__getattribute__" "BaseException" "__getattribute__" (.ref y) [.str "__class__" t] [] _ (by decide +kernel) (by decide +kernel) inB (PySem.F.args_bexc_ga (.ref y) (.str "__class__" t)) ?_
  unfold Builtin.«object.__getattribute__»
  refine wpAny_bind (wpAny_of_eq (a := ((Value.ref y : Value), [Value.str "__class__" t])) (by first | rfl | (simp only [slotArgs]; rfl)) ?_)
  refine wpAny_bind (wpAny_pure (wpAny_bind (T0.at (wpAny_bind (T3.at ?_)))))
  show wpAny _ _ (holding [Value.builtin "object.__class__"] (call (.builtin "getset_descriptor.__get__") [.builtin "object.__class__", .ref y, .ref D]) >>= ret) _ _ ⟨hp, g, d, t + 1, os⟩
  refine wpAny_bind (wpAny_holding (wpAny_call (class_get (s := ⟨hp, g, d, t + 1, os⟩) (ox := oy) (od := some oo) kin I T.hm ?_)))
  refine wpAny_pure ?_
  show wpAny _ _ (handedOut (.ref D)) _ _ ⟨hp, g, d, t + 1, os⟩
  rw [handedOut_of (v := .ref D) rfl]
  first
    | exact wpAny_pure (wpAny_pure h)
    | exact wpAny_pure h
    | exact wpAny_pure (wpAny_bind (wpAny_pure (wpAny_pure h)))
theorem kit_kept (T : ExcC K D) : KitX K (.ref y) (.ref D) (fun h => ∃ oy oo, InstAt h y oy D (some oo)) where
  ty := fun _ _ _ I => by
    obtain ⟨_, _, I⟩ := I
    exact I.type
  it := fun _ _ kin _ => by
    obtain ⟨cd, hc, _⟩ := any_some T.hd
    unfold clsIn at hc
    split at hc
    · rename_i c' d' cd' sl' ho
      intro A' Q' E' s' k q
      unfold isType loadHead
      exact wpAny_bind (wpAny_loadPart (k _ _ (kin _ _ ho)) (wpAny_pure q))
    · cases hc
  ne := fun h tp dd its n sl kin htp => by
    obtain ⟨cd, hc, _⟩ := any_some T.hd
    refine Bool.eq_false_iff.mpr fun q => ?_
    obtain rfl : D = tp := Value.ref.inj (beq_iff_eq.mp q)
    unfold clsIn at hc
    split at hc
    · rename_i c' d' cd' sl' ho
      have z := (kin _ _ ho).symm.trans htp
      cases z
    · cases hc
  ca := fun kin I k => by
    obtain ⟨_, _, I⟩ := I
    exact class_of_exc T kin I rfl k
end
section
variable {X : Cx} {pins : List (Addr × Obj)} {σ : L2.St} {H : Hp} {s : Shared}
theorem kept_inst {a D d : Addr} {fs : List (Str × V)} (I : L2.Inv X pins σ H s) (e : H a = some (exk a (.ref D) (some d))) (ed : H d = some (.xd fs)) : ∃ oy oo, PySem.W.InstAt s.heap a oy D (some oo) ∧ ∃ mA : Str → Option Value, (∀ f, RelO (fs.lookup f) (mA f)) ∧ ∀ n, PySem.W.lookIn n oo = some (mA n) := by
  obtain ⟨oe, vs, h1, h2, h3, h4⟩ := exk_at I.hok e
  obtain ⟨mA, hns, hr⟩ := (show ObjOk X.prog X.w H s.heap d (.xd fs) from I.hok d _ ed)
  obtain ⟨oo, ho, hl⟩ := lookIn_ns hns
  exact ⟨oe, oo, ⟨h1, h2, by unfold PySem.W.notCls; rw [h4] <;> rfl, by rw [h3]; exact ho⟩, mA, hr, hl⟩
end
/-- isinstance(x, c), x an exception that was kept -/
def rIsX (K : PySem.W.Frag) : List V → Hp → VK → Prop := fun xs H Q => ∃ (a D d : Addr) (fs : List (Str × V)) (c : V) (u : Value) (b : Bool), xs = [.ref a, c] ∧ H a = some (exk a (.ref D) (some d)) ∧ H d = some (.xd fs) ∧ ExcC K D ∧ ClsV c u ∧ PySem.W.kitOne K (.ref D) u = some b ∧ Q (.bl b) H
/-- isinstance(x, (c1, ..)) -/
def rIsXT (K : PySem.W.Frag) : List V → Hp → VK → Prop := fun xs H Q => ∃ (a D d : Addr) (fs : List (Str × V)) (tp : Addr) (cs : List V) (us : List Value) (b : Bool), xs = [.ref a, .ref tp] ∧ H a = some (exk a (.ref D) (some d)) ∧ H d = some (.xd fs) ∧ ExcC K D ∧ H tp = some (.tup cs) ∧ Paired ClsV cs us ∧ PySem.W.kitAny K (.ref D) us = some b ∧ Q (.bl b) H
section
variable {X : Cx}
theorem call_isX : CallR X (.builtin "isinstance") (rIsX X.K) := by
  intro pins s σ H xs us Q I r h
  obtain ⟨a, D, d, fs, c, u, b, rfl, ea, ed, T, k, e, q⟩ := h
  obtain ⟨u1, u2, rfl, r1, r2⟩ := vals2 r
  obtain rfl := k.eq r2
  obtain rfl : u1 = Value.ref a := r1
  obtain ⟨oy, oo, J, _⟩ := kept_inst I ea ed
  exact PySem.W.kia_one (kit_kept T) I.kIn ⟨_, _, J⟩ e (fun z => nomatch z) fun tk => ⟨.bl b, H, I.tok tk, rfl, q⟩
theorem call_isXT : CallR X (.builtin "isinstance") (rIsXT X.K) := by
  intro pins s σ H xs us Q I r h
  obtain ⟨a, D, d, fs, tp, cs, ws, b, rfl, ea, ed, T, hT, k, e, q⟩ := h
  obtain ⟨u1, u2, rfl, r1, r2⟩ := vals2 r
  obtain rfl : u1 = Value.ref a := r1
  obtain rfl : u2 = Value.ref tp := r2
  obtain ⟨oy, oo, J, _⟩ := kept_inst I ea ed
  obtain ⟨_, its, rv, o, h1, h2, n, h3⟩ := (show ObjOk X.prog X.w H s.heap tp (.tup cs) from I.hok tp _ hT)
  obtain rfl := ClsV.all k rv
  obtain ⟨oc, odd, dt, sl⟩ := o
  simp only at h2 h3
  subst h2 h3
  exact PySem.W.kia_tup (kit_kept T) I.kIn ⟨_, _, J⟩ h1 e (fun z => nomatch z) fun tk => ⟨.bl b, H, I.tok tk, rfl, q⟩
/-- e.f, e an exception that was kept -/
def tFldX (K : PySem.W.Frag) (f : Str) (te : TE) : TE := fun σ H Q => te σ H fun x H1 => ∃ (a D d : Addr) (fs : List (Str × V)) (v : V), x = .ref a ∧ H1 a = some (exk a (.ref D) (some d)) ∧ H1 d = some (.xd fs) ∧ XfC K D ∧ PySem.W.findIn K (.ref D) f = some none ∧ fs.lookup f = some v ∧ Q v H1
theorem pe_fldX {e : Expr} {te : TE} {pos : Pos} {f : Str} (he : PE X e te) (hb : attributeBase e f X.env (eval e X.env) = eval e X.env := by rfl) : PE X (.Attribute e f pos) (tFldX X.K f te) := by
  refine ⟨fun pins s σ H Q I h => ?_⟩
  refine attr_of hb (thn (he.run pins s σ H _ I h) fun u s1 got => ?_)
  obtain ⟨x, H1, I1, rx, a, D, d, fs, v, rfl, ea, ed, T, hno, l, q⟩ := got
  obtain rfl : u = Value.ref a := rx
  obtain ⟨oy, oo, J, mA, hr, hl⟩ := kept_inst I1 ea ed
  obtain ⟨u, hu, ru⟩ := RelO.some_of (v := v) (o := mA f) (by rw [← l]; exact hr f)
  exact HandSPX.exc_get I1.kIn J T.ga T.gg T.exC (PySem.W.findObj_own T.hdC hno rfl (by rw [hl, hu])) (handed_of ru) ⟨v, H1, I1.tok _, ru, q⟩
end
/-! ### what the written part says of the program's error classes -/
structure BaseT (K : PySem.W.Frag) (B : Addr) : Prop where
  sp : PySem.W.specialIn K (.ref B) "__getattribute__" = some (some (.builtin "type.__getattribute__"))
  ty : PySem.W.typeIn K (.ref B) = some (.type "type")
  rd : PySem.W.readsIn K B (.type "type") = true
  fc : PySem.W.findCls K (.ref B) (.type "type") "__init__" = some (.val (.builtin "ValueError.__init__"))
structure ErrT (K : PySem.W.Frag) (C fI : Addr) (f : Str) (B : Addr) : Prop where
  ox : OexC K C
  xf : XfC K C
  ec : ExcC K C
  no : PySem.W.findIn K (.ref C) f = some none
  iC : PySem.W.findIn K (.ref C) "__init__" = some (some (.ref fI))
  tI : PySem.W.typeIn K (.ref fI) = some (.type "function")
  ex : PySem.W.exmOne K (.ref C) (.ref B) = some true
/-- an error's __init__: the base's, then the field -/
def spErr (K : PySem.W.Frag) (C : Addr) (f : Str) : Sp := fun vs H Q _ => ∃ (a : Addr) (v : V), vs = [.ref a, v] ∧ H a = some (exo a C none) ∧ ∀ dx, H dx = none → dx ≠ a → Q .non (upd (upd H dx (exd dx [(f, v)])) a (exo a C (some dx)))
/-- behind the raise: the error's dict, all else as it was -/
theorem err_end {H : Hp} {a C dx : Addr} {f : Str} {v : V} (na : H a = none) (nd : (upd H a (exo a C none)) dx = none) (ne : dx ≠ a) :
    let H2 := upd (upd (upd H a (exo a C none)) dx (exd dx [(f, v)])) a (exo a C (some dx))
    H2 a = some (exo a C (some dx)) ∧ H2 dx = some (exd dx [(f, v)]) ∧ H dx = none ∧ Same H (upd (del H2 a) dx (.xd [(f, v)])) ∧ (upd (del H2 a) dx (.xd [(f, v)])) dx = some (.xd [(f, v)]) := by
  have hd : H dx = none := by
    rw [upd_ne ne] at nd
    exact nd
  refine ⟨upd_same, by rw [upd_ne ne, upd_same], hd, fun b o z => ?_, upd_same⟩
  have n1 : b ≠ a := ne_of_none z na
  have n2 : b ≠ dx := ne_of_none z hd
  rw [upd_ne n2, del_ne n1, upd_ne n1, upd_ne n2, upd_ne n1]
  exact z
end Ef
set_option maxHeartbeats 4000000
namespace Ef
open PySem PySem.Spec PyProof.Rows L2
open Sem (wp)
/-! ### enumerate(tuple) -/
theorem meets_enumerate_newG {v : Value} {o : Obj} {H : Heap → Prop} (B : Begins v o H) :
    Meets (Builtin.«enumerate.__new__» ⟨[.type "enumerate", v], []⟩) (fun _ R s => H s.heap ∧
      R (.ok (.ret (.ref (s.heap.push o).objs.size))) { s with heap := (s.heap.push o).push { cls := .type "enumerate", data := .fields #[.none, .bool false, .ref s.heap.objs.size, rawInt 0, .none, .none] } }) :=
  .of_wp fun prog w A R s h => by
    obtain ⟨hp, g, d, tk, os⟩ := s; obtain ⟨h1, h⟩ := h
    have hsub := sub_enumerate
    have q1 : ∀ {A' : Around} {E : Value → Shared → Prop} {Q : Value → Shared → Prop}, Q (.ref hp.objs.size) ⟨hp.push o, g, d, tk, os⟩ → wpAny (model prog w) A' (pyIter v) Q E ⟨hp, g, d, tk, os⟩ :=
      fun q => B.iter prog w _ _ ⟨hp, g, d, tk, os⟩ _ h1 q
    wp_walk using q1
    refine wpAny_stack_any fun st => wpAny_pure ?_
    split
    · rename_i c _ _ _ _ _
      cases (c == Value.type "enumerate")
      · wp_walk using q1
        exact ⟨_, rfl, h⟩
      · wp_walk using q1
        exact ⟨_, rfl, h⟩
    · wp_walk using q1
      exact ⟨_, rfl, h⟩
theorem call_enumerate_tup {prog : Program} {w : World} {A : Around} {E : Value → Shared → Prop} {s : Shared} {t : Addr} {items : Array Value} {Q : Value → Shared → Prop} (hT : s.heap.IsTuple t items)
    (h : ∀ h', IsEnum h' (s.heap.objs.size + 1) s.heap.objs.size 0 .none → h'.IsTupleIter s.heap.objs.size t 0 → h'.objs.size = s.heap.objs.size + 2 →
      (∀ b o, s.heap.get? b = some o → h'.get? b = some o) → Q (.ref (s.heap.objs.size + 1)) { s with heap := h' }) :
    wpAny (model prog w) A (call (.type "enumerate") [.ref t]) Q E s := by
  refine callType_new F.called_enumerate (by decide) (F.typeCall_enumerate_1 _) (F.newCall_enumerate_1 _) (fun obj => F.args_object_init_2 obj _) F.entry_enumerate_new
    (meets_enumerate_newG (begins_tuple t items)) ⟨hT, ?_⟩
  have hz : (s.heap.push { cls := .type "tuple_iterator", data := .fields #[.ref t, .int 0 0] }).objs.size = s.heap.objs.size + 1 := Heap.size_push ..
  show _ ∧ _
  rw [hz]
  have he : IsEnum ((s.heap.push { cls := .type "tuple_iterator", data := .fields #[.ref t, .int 0 0] }).push
      { cls := .type "enumerate", data := .fields #[.none, .bool false, .ref s.heap.objs.size, rawInt 0, .none, .none] }) (s.heap.objs.size + 1) s.heap.objs.size 0 .none := by
    have := Heap.get?_push_size (s.heap.push { cls := .type "tuple_iterator", data := .fields #[.ref t, .int 0 0] })
      (o := { cls := .type "enumerate", data := .fields #[.none, .bool false, .ref s.heap.objs.size, rawInt 0, .none, .none] }) rfl
    rw [hz] at this; exact this
  exact ⟨⟨_, he, rfl⟩, h _ he ⟨_, Heap.get?_push_of_some _ (Heap.get?_push_size _ rfl), rfl, rfl⟩ (by rw [Heap.size_push, hz]) fun b o x => Heap.get?_push_of_some _ (Heap.get?_push_of_some _ x)⟩
/-- the tuple at a, each item in a new pair -/
def Itet (K : PySem.W.Frag) (a : Addr) : It :=
  ⟨fun i H => ∃ (xs : List V) (x : V), SqT K H a xs ∧ xs[i]? = some x, fun i H v H' => ∃ T x, v = .ref T ∧ H T = none ∧ H' = upd H T (.tup [.int (i : Nat), x]) ∧ ∀ xs, SqT K H a xs → xs[i]? = some x, fun i H => ∃ xs : List V, SqT K H a xs ∧ xs.length ≤ i⟩
theorem tup_ne_iter {h : Heap} {a it : Addr} {items : Array Value} {i : Nat} (ht : h.IsTuple a items) (hit : h.IsTupleIter it a i) : a ≠ it := by
  rintro rfl
  obtain ⟨o, h1, c1, _⟩ := ht
  obtain ⟨o', h2, c2, _⟩ := hit
  rw [h1] at h2
  obtain rfl := Option.some.inj h2
  rw [c1] at c2
  injection c2 with c3
  exact absurd c3 (by decide)
theorem enum_ne_tup {h : Heap} {a e it : Addr} {items : Array Value} {i : Int} {old : Value} (ht : h.IsTuple a items) (he : IsEnum h e it i old) : e ≠ a := by
  rintro rfl
  obtain ⟨o, h1, c1, _⟩ := ht
  have h2 : h.get? e = _ := he
  rw [h1] at h2
  obtain rfl := Option.some.inj h2
  injection c1 with c3
  exact absurd c3 (by decide)
theorem wpAny_pyNext_enum_endX {prog : Program} {w : World} {A : Around} {E : Value → Shared → Prop} {s : Shared} {e it t : Addr} {i : Nat} {items : Array Value} {old : Value} {Q : Option Value → Shared → Prop} (hh : A.handled = none)
    (he : IsEnum s.heap e it i old) (hit : s.heap.IsTupleIter it t i) (ht : s.heap.IsTuple t items) (hx : items[i]? = none)
    (hQ : ∀ h', Heap.ExtBut it s.heap h' → Q none { s with heap := h' }) : wpAny (model prog w) A (pyNext (.ref e)) Q E s := by
  have hT : s.TypeIs (.ref e) "enumerate" := ⟨_, he, rfl⟩
  unfold pyNext
  refine wpAny_bind (wpAny_attempt (wpAny_callSpecial?_slot (name := Str.ofString "__next__") hT F.slot_enumerate_next
    (wpAny_call_entry F.slot_enumerate_next hT F.entry_enumerate_next ?_ (F.args_enumerate_next_1 _))))
  show wpAny _ _ (field (.ref e) 2 >>= _) _ _ _
  refine wpAny_bind (wpAny_field he rfl (x := .ref it) rfl ?_)
  refine wpAny_bind (wpAny_nextOf_tuple_end (show A.in1.handled = none from hh) hit ht hx fun h' x he' hx' => ?_)
  obtain ⟨o, ho, hc⟩ := hx'
  refine wpAny_bind (wpAny_isInstance (T := "StopIteration") (b := true) ⟨o, ho, hc⟩ isSubtype_stop ?_)
  exact wpAny_pure (hQ _ he')
theorem turn_enumT {P : Program} {w : World} {K : PySem.W.Frag} {elts : List Expr} {kk : Nat} {tpos : Pos} (a e it : Addr) :
    Turn P w K (.Tuple elts kk tpos) (Itet K a) [e, it] e (fun i h => (∃ old, IsEnum h e it ((i : Nat) : Int) old) ∧ h.IsTupleIter it a i ∧ e ≠ it) where
  mem := by simp
  obj := fun i h st b hb => by
    obtain ⟨⟨old, he⟩, ⟨o, ho, hc, hd⟩, _⟩ := st
    have e' : b = e ∨ b = it := by simpa using hb
    rcases e' with z | z
    · rw [z]; exact ⟨_, he, fun v q => nomatch q⟩
    · rw [z]; exact ⟨o, ho, fun v q => by rw [hd] at q; cases q⟩
  keep := fun i h h' st k => let ⟨⟨old, he⟩, hi, hne⟩ := st; ⟨⟨old, k e (by simp) _ he⟩, hi.at fun o q => k it (by simp) o q, hne⟩
  item := by
    intro X hP hw hK hc i pins s σ H E I hf st hg
    subst hP hw hK
    obtain ⟨⟨old, he⟩, hit, hne⟩ := st
    obtain ⟨xs, x, hq, hx⟩ := hg
    obtain ⟨its, rv, p, hz⟩ := I.tuple hq
    obtain ⟨u, hu, ru⟩ := rv.get hx
    have hel : e < s.heap.objs.size := Heap.lt_size he
    have hil : it < s.heap.objs.size := by obtain ⟨_, q, _⟩ := hit; exact Heap.lt_size q
    have pT : s.heap.IsTuple a its.toArray := p
    have hai := tup_ne_iter pT hit
    have hei : i < its.toArray.size := by
      have h9 : i < its.length := by
        rw [← rv.length]
        exact (List.getElem?_eq_some_iff.mp hx).1
      simpa using h9
    refine wpAny_pyNext_enum_itemD (Draws.tuple (show X.A.in1.handled = none from I.ok.hd hc) it a hai its.toArray) he ⟨hit, pT⟩ hei hne (fun z => ?_) fun x2 h' tk hP ho hst' hT hsz hk => ?_
    · rcases List.mem_cons.mp z with z | z
      · exact hne z
      · exact enum_ne_tup pT he (by simpa using z)
    have hP2 : its.toArray[i]? = some x2 := hP
    obtain rfl : u = x2 := by
      have h9 : its[i]? = some x2 := by simpa using hP2
      rw [hu] at h9
      exact Option.some.inj h9
    refine ⟨_, rfl, wpAny_letOwnedTupleGo_enum (s := { s with heap := h', toks := tk + 1 }) ho fun h'' he' sb => ?_⟩
    have hT2 : h''.get? s.heap.objs.size = some { cls := .type "tuple", data := .seq #[.int i tk, u] } := (sb.2 _ (Nat.ne_of_gt hel)).trans hT
    have new : ObjOk X.prog X.w (upd H s.heap.objs.size (.tup [.int (i : Nat), x])) h'' s.heap.objs.size (.tup [.int (i : Nat), x]) :=
      ⟨by show 2 ≤ sizeLine; decide, [.int i tk, u], .cons ⟨_, rfl⟩ (.cons ru .nil), ⟨_, hT2, rfl, _, rfl⟩⟩
    have I1 : Inv X pins σ (upd H s.heap.objs.size (.tup [.int (i : Nat), x])) { s with heap := h'', toks := tk + 1 } :=
      I.turnedNew (ch := [e, it]) (fun b ob hb q => (sb.2 b (fun z => hb (by simp [z]))).trans (hk b ob (fun z => hb (by simp [z])) (fun z => hb (by simp [z])) q)) hf (Nat.le_refl _) new
    refine ⟨.ref s.heap.objs.size, _, I1, rfl, ⟨_, x, rfl, I.hok.fresh (Nat.le_refl _), rfl, fun ys hy => by rw [I.tuple_inj hy hq]; exact hx⟩, ⟨⟨u, ?_⟩, hst'.1.at fun o q => (sb.2 it (Ne.symm hne)).trans q, hne⟩, fun b hb => ?_⟩
    · have e1 : ((i + 1 : Nat) : Int) = (i : Int) + 1 := by omega
      rw [e1]; exact he'
    · have hb' : b < s.heap.objs.size := by
        have e' : b = e ∨ b = it := by simpa using hb
        rcases e' with z | z
        · rw [z]; exact hel
        · rw [z]; exact hil
      rw [upd_ne (Nat.ne_of_lt hb')]
      exact (hf b hb).1
  done := by
    intro X hP hw hK hc i pins s σ H E I hf st hg
    subst hP hw hK
    obtain ⟨⟨old, he⟩, hit, hne⟩ := st
    obtain ⟨xs, hq, hx⟩ := hg
    obtain ⟨its, rv, p, hz⟩ := I.tuple hq
    obtain ⟨f0, f1, f2, f3, f4, f5⟩ := hf it (by simp)
    have pT : s.heap.IsTuple a its.toArray := p
    have hl := rv.length
    refine wpAny_pyNext_enum_endX (I.ok.hd hc) he hit pT (by simp; omega) fun h' eb => ⟨rfl, I.turned (t' := s.toks) (fun b o hb q => eb b o hb q) f0 f1 f3 f4 f5⟩
  self := fun A i s Q E st h => let ⟨⟨_, he⟩, _⟩ := st; wpAny_pyIter_enum he h
def iEnumT (K : PySem.W.Frag) (ta : TA) : TI := fun σ H R => ta σ H fun vs H1 => ∃ a xs, vs = [.ref a] ∧ SqT K H1 a xs ∧ R (Itet K a) H1
theorem pi_enumT {X : Cx} {e : Expr} {ta : TA} {p pos tpos : Pos} {elts : List Expr} {kk : Nat} (hg : Gl X "enumerate") (hm : X.mg "enumerate" = none) (ha : PA X [e] ta) (hs : starEach [e] X.env = [(false, eval e X.env)] := by rfl) :
    PI X (.Tuple elts kk tpos) (.Call (.Name "enumerate" p) [e] [] pos) (iEnumT X.K ta) := by
  refine ⟨fun pins s σ H R I h => ?_⟩
  refine Call_ (ld_blt I hg hm boot_enumerate (PyProof.Rows.callWith_type1 (thn (ha.run pos pins s σ H _ I h) fun us s1 ⟨vs, H1, I1, r1, q1⟩ => ?_) hs rfl))
  obtain ⟨a, xs, ex, hq, q⟩ := q1
  subst ex
  cases r1 with
  | cons r rr =>
    cases rr
    cases r
    obtain ⟨its, rv, p', hz⟩ := I1.tuple hq
    refine call_enumerate_tup (show s1.heap.IsTuple a its.toArray from p') fun h' he hit hsz hk => wpAny_pyIter_enum he ?_
    have I2 : Inv X pins σ H1 { s1 with heap := h' } := I1.kept (t' := s1.toks) hk
    refine ⟨s1.heap.objs.size + 1, [s1.heap.objs.size + 1, s1.heap.objs.size], _, _, H1, rfl, I2, turn_enumT a (s1.heap.objs.size + 1) s1.heap.objs.size, ⟨⟨.none, he⟩, hit, Nat.succ_ne_self _⟩, fun b hb => ?_, q⟩
    have e' : b = s1.heap.objs.size + 1 ∨ b = s1.heap.objs.size := by simpa using hb
    have hle : s1.heap.objs.size ≤ b := by
      rcases e' with z | z
      · rw [z]; exact Nat.le_add_right _ _
      · rw [z]; exact Nat.le_refl _
    exact I1.fpOk hle (I1.hok.fresh hle)
/-! ### sorted(xs) of tuples of ints, also of at most one -/
theorem sort_short {prog : Program} {w : World} {A : Around} {E : Value → Shared → Prop} {s : Shared} {a : Addr} {vs : List Value} {n : Nat} {P : PySem.Fin → Shared → Prop} (ho : s.heap.get? a = some (seqObj "list" vs.toArray n)) (h1 : vs.length < 2)
    (h : ∀ out : Array Value, out.toList.Perm vs → P (.done (.ret .none)) { s with heap := sortedHeap s.heap a vs out }) :
    wpAny (model prog w) A (Builtin.«list.sort» ⟨[.ref a], []⟩) P E s :=
  SK.plain_sort (r := fun _ => 0) ho (by omega) (fun h2 Q hQ => absurd h2 (by omega)) fun ps out e1 e2 e3 => h out (TS.out_rank (r := fun _ => 0) e1 e2 e3).1
theorem sorted_short {prog : Program} {w : World} {A : Around} {E : Value → Shared → Prop} {s : Shared} {l : Addr} {vs : List Value} {Q : Value → Shared → Prop} (hl : s.heap.IsList l vs.toArray) (h1 : vs.length < 2)
    (h : ∀ out : Array Value, out.toList.Perm vs → Q (.ref (s.heap.objs.size + 1)) { s with heap := sortedAll s.heap vs out }) :
    wpAny (model prog w) A (call (.builtin "sorted") [.ref l]) Q E s := by
  refine Calls.call_function_entry kind_sorted plain_sorted entry_sorted (args_sorted1 _) ?_
  unfold Builtin.«sorted»
  refine wpAny_bind (m := checkCount "sorted" 1 1 _) (wpAny_pure ?_)
  refine wpAny_bind (collect_list hl ?_ (by rw [sizeLine_eq]; omega))
  refine wpAny_bind (wpAny_newList ?_ (by rw [sizeLine_eq]; omega))
  have hsz : ((s.heap.push (seqObj "list" #[] 0)).update s.heap.objs.size (Obj.mapSeq (· ++ vs.toArray))).objs.size = s.heap.objs.size + 1 := by
    rw [Heap.size_update, size_push']
  have hoL : (((s.heap.push (seqObj "list" #[] 0)).update s.heap.objs.size (Obj.mapSeq (· ++ vs.toArray))).push (seqObj "list" vs.toArray 0)).get? (s.heap.objs.size + 1) = some (seqObj "list" vs.toArray 0) := by
    rw [← hsz]; exact Heap.get?_push_size _ rfl
  show wpAny _ _ _ _ _ { s with heap := ((s.heap.push (seqObj "list" #[] 0)).update s.heap.objs.size (Obj.mapSeq (· ++ vs.toArray))).push (seqObj "list" vs.toArray 0) }
  rw [hsz]
  refine wpAny_bind (wpAny_holding (wpAny_call_entry slot_list_sort ⟨_, hoL, rfl⟩ entry_list_sort (sort_short hoL h1 fun out a1 => ⟨_, rfl, ?_⟩) (args_list_sort _)))
  exact wpAny_pure ⟨_, rfl, h out a1⟩
def rSortA (K : PySem.W.Frag) (B : Int) : List V → Hp → VK → Prop := fun vs H Q => (∃ d, 1 ≤ d ∧ rSortU K d B vs H Q) ∨
  ∃ (a : Addr) (xs : List V), vs = [V.ref a] ∧ SqL K H a xs ∧ xs.length < 2 ∧ (∀ x ∈ xs, ∃ t, x = .ref t) ∧ ∀ p, H p = none → Q (.ref p) (upd H p (.lst xs))
theorem perm_short {α : Type} {l m : List α} (h : l.Perm m) (h1 : m.length < 2) : l = m := by
  cases m with
  | nil => exact List.perm_nil.mp h
  | cons x r =>
    cases r with
    | nil => exact List.perm_singleton.mp h
    | cons y r => exact absurd h1 (by simp)
theorem cr_sortA {X : Cx} {B : Int} : CallR X (.builtin "sorted") (rSortA X.K B) := by
  intro pins s σ H vs us Q I r h
  rcases h with ⟨d, hd, h⟩ | ⟨a, xs, rfl, hs, h1, hx, q⟩
  · exact cr_sortT hd pins s σ H vs us Q I r h
  · obtain ⟨its, rv, hl, hz⟩ := I.list hs
    rw [Vals.ref1 r]
    obtain ⟨e1, e2⟩ := bkV_refs rv hx
    refine sorted_short hl.isList (by rw [← rv.length]; exact h1) fun out p1 => ?_
    · obtain ⟨ep, he'⟩ := PyProof.Rows.sortedAll_at s.heap its out
      have e9 : out.toList = its := perm_short p1 (by rw [← rv.length]; exact h1)
      refine ⟨.ref _, upd H (s.heap.objs.size + 1) (.lst xs), I.laid (t' := s.toks) (fun _ _ => PyProof.Rows.sortedAll_old) (Nat.le_succ _) ⟨hz, out.toList, ep, by rw [e9]; exact rv, he'⟩, rfl, q _ (I.hok.fresh (Nat.le_succ _))⟩
theorem walk_enumT {K : PySem.W.Frag} {a : Addr} {xs : List V} : Walk (Itet K a) xs.length (fun H => SqT K H a xs) (YPair (fun i => some (.int (i : Nat))) (fun i => xs[i]?)) := by
  refine ⟨fun i _ hi q => ⟨xs, xs[i], q, by simp [hi]⟩, fun _ q => ⟨xs, q, Nat.le_refl _⟩, fun i H v H' _ q y => ?_⟩
  obtain ⟨T, x, h1, h2, h3, h4⟩ := y
  exact ⟨T, .int (i : Nat), x, h1, h2, h3, rfl, h4 xs q⟩
end Ef
set_option maxHeartbeats 4000000
namespace Ef
open PySem PySem.Spec PyProof.Rows L2
open Sem (wp)
/-! ### zip(tuple, list) -/
/-- the tuple at a and the list at b as they stand at each turn, the items in new pairs -/
def ItzM (K : PySem.W.Frag) (a b : Addr) : It :=
  ⟨fun i H => ∃ (xs ys : List V) (x y : V), SqT K H a xs ∧ SqL K H b ys ∧ xs[i]? = some x ∧ ys[i]? = some y,
    fun i H v H' => ∃ T x y, v = .ref T ∧ H T = none ∧ H' = upd H T (.tup [x, y]) ∧ (∀ xs, SqT K H a xs → xs[i]? = some x) ∧ ∀ ys, SqL K H b ys → ys[i]? = some y,
    fun i H => ∃ xs ys : List V, SqT K H a xs ∧ SqL K H b ys ∧ i ≤ xs.length ∧ i ≤ ys.length ∧ (i = xs.length ∨ i = ys.length)⟩
theorem zipSep_of {z TI TO i1 i2 a b : Addr} (D : ZipApart z TI TO i1 i2 a b) : ZipSep2 z TI TO i1 i2 [i1, a] [i2, b] where
  TIz := D.TIz
  TOz := D.TOz
  TITO := D.TITO
  TIi1 := D.TIi1
  mem1 := by simp
  zf1 := by simp [D.i1z.symm, D.l1z.symm]
  Tf1 := by simp [D.TOi1, D.l1TO.symm]
  TIi2 := D.TIi2
  mem2 := by simp
  zf2 := by simp [D.i2z.symm, D.l2z.symm]
  Tf2 := by simp [D.TOi2, D.l2TO.symm]
  sep1_2 := by simp [D.i12, D.l2i1.symm]
  sep2_1 := by simp [D.i12.symm, D.l1i2.symm]
theorem turn_zipM {P : Program} {w : World} {K : PySem.W.Frag} {elts : List Expr} {kk : Nat} {tpos : Pos} {a b z TI TO i1 i2 : Addr} (D : ZipApart z TI TO i1 i2 a b) :
    Turn P w K (.Tuple elts kk tpos) (ItzM K a b) [z, TI, TO, i1, i2] z (fun i h => IsZip h z TI TO .none ∧ IsPair h TI (.ref i1) (.ref i2) ∧ (∃ x y, IsPair h TO x y) ∧ h.IsTupleIter i1 a i ∧ h.IsListIter i2 b i) where
  mem := by simp
  obj := fun i h st c hc => by
    obtain ⟨hz, hTI, ⟨x, y, hTO⟩, ⟨o1, e1, _, d1⟩, ⟨o2, e2, _, d2⟩⟩ := st
    have e' : c = z ∨ c = TI ∨ c = TO ∨ c = i1 ∨ c = i2 := by simpa using hc
    rcases e' with q | q | q | q | q
    · rw [q]; exact ⟨_, hz, fun v q => nomatch q⟩
    · rw [q]; exact ⟨_, hTI, fun v q => nomatch q⟩
    · rw [q]; exact ⟨_, hTO, fun v q => nomatch q⟩
    · rw [q]; exact ⟨o1, e1, fun v q => by rw [d1] at q; cases q⟩
    · rw [q]; exact ⟨o2, e2, fun v q => by rw [d2] at q; cases q⟩
  keep := fun i h h' st k => by
    obtain ⟨hz, hTI, ⟨x, y, hTO⟩, h1, h2⟩ := st
    exact ⟨k z (by simp) _ hz, k TI (by simp) _ hTI, ⟨x, y, k TO (by simp) _ hTO⟩, h1.at fun o q => k i1 (by simp) o q, h2.at fun o q => k i2 (by simp) o q⟩
  item := by
    intro X hP hw hK hc i pins s σ H E I hf st hg
    subst hP hw hK
    obtain ⟨hz, hTI, ⟨x0, y0, hTO⟩, h1, h2⟩ := st
    obtain ⟨xs, ys, x, y, hqx, hqy, hx, hy⟩ := hg
    obtain ⟨its, rv, p, _⟩ := I.tuple hqx
    obtain ⟨its2, rv2, p2, _⟩ := I.list hqy
    obtain ⟨u, hu, ru⟩ := rv.get hx
    obtain ⟨u2, hu2, ru2⟩ := rv2.get hy
    have hzl : z < s.heap.objs.size := Heap.lt_size hz
    have pT : s.heap.IsTuple a its.toArray := p
    have pL : s.heap.IsList b its2.toArray := p2.isList
    have n1 : i < its.toArray.size := by
      have h9 := (List.getElem?_eq_some_iff.mp hu).1
      simpa using h9
    have n2 : i < its2.toArray.size := by
      have h9 := (List.getElem?_eq_some_iff.mp hu2).1
      simpa using h9
    have hh : X.A.in1.handled = none := I.ok.hd hc
    refine wpAny_pyNext_zipD2_item (zipSep_of D) (Draws.tuple hh i1 a D.l1i1 its.toArray) (Draws.list hh i2 b D.l2i2 its2.toArray) hz hTI hTO ⟨h1, pT⟩ ⟨h2, pL⟩ n1 n2 fun x1 x2 h' tk e1 e2 z' TO' h1' h2' hT hsz hk => ?_
    have e1 : its.toArray[i]? = some x1 := e1
    have e2 : its2.toArray[i]? = some x2 := e2
    obtain rfl : u = x1 := by
      have h9 : its[i]? = some x1 := by simpa using e1
      rw [hu] at h9
      exact Option.some.inj h9
    obtain rfl : u2 = x2 := by
      have h9 : its2[i]? = some x2 := by simpa using e2
      rw [hu2] at h9
      exact Option.some.inj h9
    refine ⟨_, rfl, wpAny_letOwnedTupleGo_zip (s := { s with heap := h', toks := tk }) z' fun h'' z'' sb => ?_⟩
    have hT2 : h''.get? s.heap.objs.size = some { cls := .type "tuple", data := .seq #[u, u2] } := (sb.2 _ (Nat.ne_of_gt hzl)).trans hT
    have new : ObjOk X.prog X.w (upd H s.heap.objs.size (.tup [x, y])) h'' s.heap.objs.size (.tup [x, y]) :=
      ⟨by show 2 ≤ sizeLine; decide, [u, u2], .cons ru (.cons ru2 .nil), ⟨_, hT2, rfl, _, rfl⟩⟩
    have I1 : Inv X pins σ (upd H s.heap.objs.size (.tup [x, y])) { s with heap := h'', toks := tk } :=
      I.turnedNew (t' := tk) (ch := [z, TI, TO, i1, i2]) (fun c o hb q => (sb.2 c (fun q' => hb (by simp [q']))).trans (hk c o (fun q' => hb (by simp [q'])) (fun q' => hb (by simp [q'])) (fun q' => hb (by simp [q'])) (fun q' => hb (by simp [q'])) q)) hf (Nat.le_refl _) new
    refine ⟨.ref s.heap.objs.size, _, I1, rfl, ⟨_, x, y, rfl, I.hok.fresh (Nat.le_refl _), rfl, fun l hl => by rw [I.tuple_inj hl hqx]; exact hx, fun l hl => by rw [I.list_inj hl hqy]; exact hy⟩, ⟨z'', ?_, ⟨u, u2, ?_⟩, ?_, ?_⟩, fun c hcm => ?_⟩
    · exact (sb.2 _ D.TIz).trans (hk _ _ D.TIz D.TITO D.TIi1 D.TIi2 hTI)
    · exact (sb.2 _ D.TOz).trans TO'
    · exact h1'.1.at fun o q => (sb.2 _ D.i1z).trans q
    · exact h2'.1.at fun o q => (sb.2 _ D.i2z).trans q
    · have hlt : c < s.heap.objs.size := by
        have e' : c = z ∨ c = TI ∨ c = TO ∨ c = i1 ∨ c = i2 := by simpa using hcm
        rcases e' with q | q | q | q | q
        · rw [q]; exact hzl
        · rw [q]; exact Heap.lt_size hTI
        · rw [q]; exact Heap.lt_size hTO
        · rw [q]; obtain ⟨_, e1, _⟩ := h1; exact Heap.lt_size e1
        · rw [q]; obtain ⟨_, e2, _⟩ := h2; exact Heap.lt_size e2
      rw [upd_ne (Nat.ne_of_lt hlt)]
      exact (hf c hcm).1
  done := by
    intro X hP hw hK hc i pins s σ H E I hf st hg
    subst hP hw hK
    obtain ⟨hz, hTI, ⟨x0, y0, hTO⟩, h1, h2⟩ := st
    obtain ⟨xs, ys, hqx, hqy, g1, g2, hend⟩ := hg
    obtain ⟨its, rv, p, _⟩ := I.tuple hqx
    obtain ⟨its2, rv2, p2, _⟩ := I.list hqy
    have l1 := rv.length
    have l2 := rv2.length
    have pT : s.heap.IsTuple a its.toArray := p
    have pL : s.heap.IsList b its2.toArray := p2.isList
    have hh : X.A.in1.handled = none := I.ok.hd hc
    have m1 : its.toArray.size = its.length := by simp
    have m2 : its2.toArray.size = its2.length := by simp
    exact wpAny_pyNext_zipD2_end (zipSep_of D) (Draws.tuple hh i1 a D.l1i1 its.toArray) (Draws.list hh i2 b D.l2i2 its2.toArray) hz hTI hTO ⟨h1, pT⟩ ⟨h2, pL⟩ (by omega) (by omega) (by omega) fun h' tk hk => ⟨rfl, I.turnedL (t' := tk) (ch := [z, TI, TO, i1, i2]) (fun c o hb q =>
      hk c o (fun q' => hb (by simp [q'])) (fun q' => hb (by simp [q'])) (fun q' => hb (by simp [q'])) (fun q' => hb (by simp [q'])) q) hf⟩
  self := fun A i s Q E st h => wpAny_pyIter_zip st.1 h
def iZipM (K : PySem.W.Frag) (ta : TA) : TI := fun σ H R => ta σ H fun vs H1 => ∃ a b xs ys, vs = [.ref a, .ref b] ∧ SqT K H1 a xs ∧ SqL K H1 b ys ∧ R (ItzM K a b) H1
theorem pi_zipM {X : Cx} {e e2 : Expr} {ta : TA} {p pos tpos : Pos} {elts : List Expr} {kk : Nat} (hg : Gl X "zip") (hm : X.mg "zip" = none) (ha : PA X [e, e2] ta)
    (hs : starEach [e, e2] X.env = (false, eval e X.env) :: starEach [e2] X.env := by rfl) (hpl : (backTo pos (starEach [e2] X.env)).any (·.1) = false := by rfl) :
    PI X (.Tuple elts kk tpos) (.Call (.Name "zip" p) [e, e2] [] pos) (iZipM X.K ta) := by
  refine ⟨fun pins s σ H R I h => ?_⟩
  refine Call_ (ld_blt I hg hm PyProof.Rows.boot_zip (PyProof.Rows.callWith_type1 (thn (ha.run pos pins s σ H _ I h) fun us s1 ⟨vs, H1, I1, r1, q1⟩ => ?_) hs hpl))
  obtain ⟨a, b, xs, ys, ex, hqx, hqy, q⟩ := q1
  subst ex
  cases r1 with
  | cons r rr =>
    cases rr with
    | cons r' rr =>
      cases rr
      cases r
      cases r'
      obtain ⟨its, rv, p1, _⟩ := I1.tuple hqx
      obtain ⟨its2, rv2, p2, _⟩ := I1.list hqy
      have pT : s1.heap.IsTuple a its.toArray := p1
      obtain ⟨o1, ho1, _⟩ := id pT
      refine zip_begins2 (begins_tuple a its.toArray) (begins_list b its2.toArray) pT p2.isList fun h' hz hTI hTO g1 g2 hsz hk => wpAny_pyIter_zip hz ?_
      have I2 : Inv X pins σ H1 { s1 with heap := h' } := I1.kept (t' := s1.toks) hk
      refine ⟨s1.heap.objs.size + 4, [s1.heap.objs.size + 4, s1.heap.objs.size + 2, s1.heap.objs.size + 3, s1.heap.objs.size, s1.heap.objs.size + 1], _, _, H1, rfl, I2, turn_zipM (PySem.W.ktu_apart s1.heap.objs.size a b (Heap.lt_size ho1) p2.lt), ⟨hz, hTI, ⟨_, _, hTO⟩, ⟨_, g1, rfl, rfl⟩, ⟨_, g2, rfl, rfl⟩⟩, fun c hcm => ?_, q⟩
      have e' : c = s1.heap.objs.size + 4 ∨ c = s1.heap.objs.size + 2 ∨ c = s1.heap.objs.size + 3 ∨ c = s1.heap.objs.size ∨ c = s1.heap.objs.size + 1 := by simpa using hcm
      have hle : s1.heap.objs.size ≤ c := by
        rcases e' with z | z | z | z | z
        · rw [z]; exact Nat.le_add_right _ _
        · rw [z]; exact Nat.le_add_right _ _
        · rw [z]; exact Nat.le_add_right _ _
        · rw [z]; exact Nat.le_refl _
        · rw [z]; exact Nat.le_add_right _ _
      exact I1.fpOk hle (I1.hok.fresh hle)
theorem walk_zipM {K : PySem.W.Frag} {a b : Addr} {xs ys : List V} {n : Nat} (hn : n = min xs.length ys.length) : Walk (ItzM K a b) n (fun H => SqT K H a xs ∧ SqL K H b ys) (YPair (fun i => xs[i]?) (fun i => ys[i]?)) := by
  subst hn
  refine ⟨fun i _ hi q => ?_, fun _ q => ⟨xs, ys, q.1, q.2, by omega, by omega, by omega⟩, fun i H v H' _ q y => ?_⟩
  · have h1 : i < xs.length := by omega
    have h2 : i < ys.length := by omega
    exact ⟨xs, ys, xs[i], ys[i], q.1, q.2, by simp [h1], by simp [h2]⟩
  · obtain ⟨T, x, z, h1, h2, h3, h4, h5⟩ := y
    exact ⟨T, x, z, h1, h2, h3, h4 xs q.1, h5 ys q.2⟩
end Ef
set_option maxHeartbeats 4000000
namespace Ef
open PySem PySem.Spec PyProof.Rows L2
/-! ### sorted(t) of a tuple of ints -/
section
variable {prog : Program} {w : World} {A : Around} {E : Value → Shared → Prop} {s : Shared}
theorem collect_tup {l : Addr} {vs : List Value} {Q : List Value → Shared → Prop} (hl : s.heap.IsTuple l vs.toArray) (hn : vs.length ≤ sizeLine)
    (h : Q vs { s with heap := (s.heap.push (seqObj "list" #[] 0)).update s.heap.objs.size (Obj.mapSeq (· ++ vs.toArray)) }) : wpAny (model prog w) A (collect (.ref l)) Q E s := by
  obtain ⟨o, ho, hc, n, hd⟩ := hl
  have h2 : (s.heap.push (seqObj "list" #[] 0)).get? l = some o := Heap.get?_push_of_some _ ho
  have h3 : (s.heap.push (seqObj "list" #[] 0)).get? s.heap.objs.size = some (seqObj "list" #[] 0) := Heap.get?_push_size _ rfl
  have h4 : ((#[] : Array Value) ++ vs.toArray).toList = vs := by simp
  have h5 : (#[] ++ vs.toArray).size ≤ sizeLine + 1 := by
    simp only [Array.size_append, List.size_toArray, List.length_nil]
    omega
  unfold collect
  refine wpAny_bind (wpAny_runValue (codeAny_builtin entry_proto_collect' (show wpAny _ _ (do again (.builtin "list.__iadd__" ⟨[← newList [], .ref l], []⟩)) _ _ s from ?_)))
  refine wpAny_bind (wpAny_newList (wpAny_pure ⟨Code.quiet_builtin _ (by decide +kernel), codeAny_builtin entry_list_iadd' (show wpAny _ _ (Builtin.List.listExtendWith (.ref s.heap.objs.size) (.ref l) (.ref s.heap.objs.size)) _ _ { s with heap := s.heap.push (seqObj "list" #[] 0) } from ?_)⟩))
  unfold Builtin.List.listExtendWith
  refine wpAny_bind (wpAny_typeOf (T := "tuple") ⟨o, h2, hc⟩ ?_)
  rw [if_pos (by rw [show (Value.type "tuple" == Value.type "tuple") = true from rfl]; simp)]
  refine wpAny_bind (listItems_at h2 hd (wpAny_bind (listItems_at (xs := #[]) (n := 0) h3 rfl ?_)))
  rw [if_neg (by simp)]
  refine wpAny_bind (listUpdate_at (xs := #[]) (n := 0) h3 rfl (wpAny_pure ?_) (Nat.zero_le _) h5)
  show wpAny (model prog w) A (do
      let o ← load s.heap.objs.size
      match o.data with
      | .seq ys _ => pure ys.toList
      | _ => unsupported "internal:collect") Q E { s with heap := (s.heap.push (seqObj "list" #[] 0)).update s.heap.objs.size (Obj.mapSeq (· ++ vs.toArray)) }
  refine wpAny_bind (wpAny_load (get?_update_seq h3 _) (show wpAny _ _ (pure ((#[] : Array Value) ++ vs.toArray).toList) Q E _ from ?_))
  rw [h4]
  exact wpAny_pure h
theorem sorted_tup {l : Addr} {vs : List Value} {ns : List Int} {Q : Value → Shared → Prop} (hl : s.heap.IsTuple l vs.toArray) (hI : IntsAre vs ns) (hn : vs.length < 64)
    (h : ∀ (out : Array Value) (ns' : List Int), IntsAre out.toList ns' → ns'.Perm ns → ns'.Pairwise (· ≤ ·) → Q (.ref (s.heap.objs.size + 1)) { s with heap := sortedAll s.heap vs out }) :
    wpAny (model prog w) A (call (.builtin "sorted") [.ref l]) Q E s := by
  refine Calls.call_function_entry kind_sorted plain_sorted entry_sorted (args_sorted1 (.ref l)) ?_
  unfold Builtin.«sorted»
  refine wpAny_bind (m := checkCount "sorted" 1 1 _) (wpAny_pure (wpAny_bind (collect_tup hl (by rw [sizeLine_eq]; omega) (wpAny_bind (wpAny_newList ?_ (by rw [sizeLine_eq]; omega))))))
  have z1 : ((s.heap.push (seqObj "list" #[] 0)).update s.heap.objs.size (Obj.mapSeq (· ++ vs.toArray))).objs.size = s.heap.objs.size + 1 := (Heap.size_update ..).trans (size_push' ..)
  have z2 := Heap.get?_push_size ((s.heap.push (seqObj "list" #[] 0)).update s.heap.objs.size (Obj.mapSeq (· ++ vs.toArray))) (o := seqObj "list" vs.toArray 0) rfl
  rw [z1] at z2
  show wpAny _ _ _ _ _ { s with heap := ((s.heap.push (seqObj "list" #[] 0)).update s.heap.objs.size (Obj.mapSeq (· ++ vs.toArray))).push (seqObj "list" vs.toArray 0) }
  rw [z1]
  refine wpAny_bind (wpAny_holding (wpAny_call_entry slot_list_sort ⟨_, z2, rfl⟩ entry_list_sort (list_sort_tree z2 hI hn fun out ns' a1 a2 a3 => ⟨_, rfl, wpAny_pure ⟨_, rfl, h out ns' a1 a2 a3⟩⟩) (args_list_sort _)))
end
def rSortTI (K : PySem.W.Frag) : List V → Hp → VK → Prop := fun vs H Q => ∃ (a : Addr) (ns : List Int), vs = [V.ref a] ∧ (SqL K H a (ns.map V.int) ∨ SqT K H a (ns.map V.int)) ∧ ns.length < 64 ∧
  ∀ (ns' : List Int) (p : Addr), ns'.Perm ns → ns'.Pairwise (· ≤ ·) → H p = none → Q (.ref p) (upd H p (.lst (ns'.map V.int)))
section
variable {X : Cx} (K : PySem.W.Frag)
theorem cr_sortTI (h : X.K = K := by rfl) : CallR X (.builtin "sorted") (rSortTI K) := by
  subst h
  intro pins s σ H vs us Q I r h
  obtain ⟨a, ns, rfl, hs | hs, h64, q⟩ := h
  · exact cr_sorted pins s σ H _ us Q I r ⟨a, ns, rfl, hs, h64, q⟩
  · obtain ⟨its, rv, hl, hz⟩ := I.tuple hs
    rw [Vals.ref1 r]
    have hi := rv.ints
    refine sorted_tup (show s.heap.IsTuple a its.toArray from hl) hi (by rw [hi.length]; exact h64) fun out ns' h1 h2 h3 => ?_
    obtain ⟨ep, he'⟩ := PyProof.Rows.sortedAll_at s.heap its out
    have hlen : (ns'.map V.int).length ≤ sizeLine := by
      rw [List.length_map, h2.length_eq]
      exact small64 h64
    exact ⟨.ref _, upd H (s.heap.objs.size + 1) (.lst (ns'.map V.int)), I.laid (t' := s.toks) (fun _ _ => PyProof.Rows.sortedAll_old) (Nat.le_succ _) ⟨hlen, out.toList, ep, vals_of_ints h1, he'⟩, rfl, q ns' _ h2 h3 (I.hok.fresh (Nat.le_succ _))⟩
end
end Ef
set_option maxHeartbeats 4000000
namespace Ef
open PySem PySem.Spec PyProof.Rows L2
open AutoSeq1 (wpAny_loadPart')
/-! ### list(reversed(range(..))) -/
section
variable {prog : Program} {w : World} {A : Around} {E : Value → Shared → Prop} {s : Shared} {I : Addr} {a c : Int} {n : Nat}
theorem hint_rit {x y z : Int} {Q : Value → Shared → Prop} (hi : IsRangeIter s.heap I x y z) (hb : 0 ≤ y ∧ y < 2 ^ 24)
    (h : ∀ u tk, s.toks ≤ tk → Q (.int y u) { s with toks := tk }) : wpAny (model prog w) A (call (.builtin "range_iterator.__length_hint__") [.ref I]) Q E s := by
  have hT : s.TypeIs (.ref I) "range_iterator" := ⟨_, hi, rfl⟩
  refine wpAny_call_entry F.slot_range_iterator_length_hint hT F.entry_range_iterator_length_hint ?_ (F.args_range_iterator_length_hint_1 _)
  obtain ⟨hp, g, d, tk, os⟩ := s
  wp_walk using wpAny_loadPart' hi
  exact ⟨_, rfl, h _ _ (Nat.le_succ _)⟩
theorem extend_rit {R : Result → Shared → Prop} (hh : A.handled = none) (hn : n < 2 ^ 24) (hit : IsRangeIter s.heap I (a + ((0 : Nat) : Int) * c) ((n : Int) - ((0 : Nat) : Int)) c) (S : Addr) (c₀ : Nat) (hSI : S ≠ I)
    (hS : s.heap.get? S = some { cls := .type "list", data := .seq #[] c₀ })
    (hR : ∀ h' tk acc' c', (∀ b o, b ≠ S → b ≠ I → s.heap.get? b = some o → h'.get? b = some o) → h'.get? S = some { cls := .type "list", dict := none, data := .seq acc' c', slots := #[] } →
      ItemsOf (fun i v => ∃ t, v = .int (a + i * c) t) acc' n → R (.ok (.ret .none)) { s with heap := h', toks := tk }) :
    wpAny (model prog w) A.in1 (Builtin.List.listExtendWith (.ref S) (.ref I) .none)
      (fun fin s' => match fin with | .done f => R (.ok f) s' | .again c' => c'.quiet = true ∧ codeAny (model prog w) A c' R s') (fun e s' => R (.error e) s') s := by
  have W := (Walks.range (prog := prog) (w := w) (A := A.in1) hh I a c n).toS
  have hSf : S ∉ [I] := fun hm => hSI (List.mem_singleton.mp hm)
  have hT : s.TypeIs (.ref I) "range_iterator" := ⟨_, hit, rfl⟩
  have z1 : Builtin.List.listSameRef (.ref S) (.ref I) = false := by simp [Builtin.List.listSameRef, hSI]
  unfold Builtin.List.listExtendWith
  refine wpAny_bind (wpAny_typeOf hT ?_)
  rw [if_neg (by rw [z1]; decide)]
  refine wpAny_bind (W.self 0 _ _ _ hit (wpAny_bind (wpAny_holding ?_)))
  unfold Builtin.List.listLengthHint
  refine wpAny_bind (wpAny_specialOf hT F.nolen_ra ?_)
  show wpAny _ A.in1 (specialOf (Value.ref I) (Str.ofString "__length_hint__") >>= _) _ _ _
  refine wpAny_bind (wpAny_specialOf hT F.hint_ra ?_)
  generalize hid : ("range_iterator.__length_hint__" : String) = id0
  wp_delta
  rw [show splitId id0 = some ("range_iterator", "__length_hint__") from by subst hid; decide +kernel]
  subst hid
  refine wpAny_bind (wpAny_isInstance (b := true) hT (by rw [isSubtype_type]; kernel_rfl) ?_)
  show wpAny _ A.in1 (call (.builtin "range_iterator.__length_hint__") [.ref I] >>= _) _ _ _
  have e0 : (n : Int) - ((0 : Nat) : Int) = (n : Int) := by omega
  refine wpAny_bind (hint_rit hit (by rw [e0]; omega) fun u tk htk => ?_)
  refine wpAny_bind (m := asInt? (.int _ u)) (wpAny_pure ?_)
  have z2 : Builtin.List.listTooLong (Int.toNat ((n : Int) - ((0 : Nat) : Int))) = false := by
    rw [e0]
    simp [Builtin.List.listTooLong, sizeLine]
    omega
  dsimp only
  rw [if_neg (by rw [z2]; decide)]
  refine wpAny_pure ?_
  rw [if_neg (by decide)]
  refine wpAny_pure ⟨plainId_quiet F.plain_extend_loop _, codeAny_extend_loopS W (by rw [sizeLine_eq]; omega) S hSf .none n 0 _ #[] c₀ rfl (Nat.zero_le _) hit hS (ItemsOf.nil _) fun s' acc' c' hm hS' hacc => ?_⟩
  rw [Moved.eq_with hm]
  refine hR s'.heap s'.toks acc' c' (fun b o hb hb2 e => hm.heap b o (fun hmem => ?_) e) hS' hacc
  rcases List.mem_cons.mp hmem with e' | hmem
  · exact hb e'
  · exact hb2 (List.mem_singleton.mp hmem)
theorem call_list_rit {Q : Value → Shared → Prop} (hh : A.handled = none) (hn : n < 2 ^ 24) (hit : IsRangeIter s.heap I (a + ((0 : Nat) : Int) * c) ((n : Int) - ((0 : Nat) : Int)) c)
    (hQ : ∀ h' tk acc' c', (∀ b o, b ≠ I → s.heap.get? b = some o → h'.get? b = some o) →
      h'.get? s.heap.objs.size = some { cls := .type "list", dict := none, data := .seq acc' c', slots := #[] } → ItemsOf (fun i v => ∃ t, v = .int (a + i * c) t) acc' n → Q (.ref s.heap.objs.size) { s with heap := h', toks := tk }) :
    wpAny (model prog w) A (call (.type "list") [.ref I]) Q E s := by
  have hIl : I < s.heap.objs.size := Heap.lt_size hit
  refine callType_codes (Q₁ := fun obj s₁ => obj = .ref s.heap.objs.size ∧ s₁ = { s with heap := s.heap.push { cls := .type "list", data := .seq #[] } }) F.called_list (F.typeCall_list_1 _) F.entry_list_init
    (code_list_new _ ⟨rfl, rfl⟩) fun obj s₁ h₁ => ?_
  obtain ⟨rfl, rfl⟩ := h₁
  have hS : (s.heap.push { cls := .type "list", data := .seq #[] }).get? s.heap.objs.size = some { cls := .type "list", data := .seq #[] } := Heap.get?_push_size _ rfl
  refine ⟨⟨_, hS, rfl⟩, F.args_list_init_2 _ _, ?_⟩
  show wpAny _ _ (do let old ← Builtin.List.listItems (.ref s.heap.objs.size); Builtin.List.listUpdate (.ref s.heap.objs.size) (fun _ => #[]); letGo old.toList.reverse; Builtin.List.listExtendWith (.ref s.heap.objs.size) (.ref I) .none) _ _ _
  refine wpAny_bind ?_
  unfold Builtin.List.listItems
  refine wpAny_bind (wpAny_seqItems hS rfl (wpAny_pure ?_))
  show wpAny _ _ (updateSeq s.heap.objs.size (fun _ => #[]) >>= fun _ => letGo (#[] : Array Value).toList.reverse >>= fun _ => Builtin.List.listExtendWith (.ref s.heap.objs.size) (.ref I) .none) _ _ _
  refine wpAny_bind (wpAny_updateSeq hS rfl ?_)
  have hS₂ := Heap.get?_update_self (Obj.mapSeq (fun _ => (#[] : Array Value))) hS rfl
  have oth : ∀ b o, b ≠ s.heap.objs.size → (s.heap.push { cls := .type "list", data := .seq #[] }).get? b = some o → ((s.heap.push { cls := .type "list", data := .seq #[] }).update s.heap.objs.size (Obj.mapSeq (fun _ => (#[] : Array Value)))).get? b = some o :=
    fun b o hb e => (Heap.get?_update_other _ _ (Ne.symm hb)).trans e
  refine wpAny_bind (wpAny_letGo ?_)
  refine extend_rit (A := A.in1) hh hn (oth I _ (Nat.ne_of_lt hIl) (Heap.get?_push_of_some _ hit)) s.heap.objs.size _ (Nat.ne_of_gt hIl) hS₂ fun h' tk acc' c' hk hS' hacc => ?_
  exact ⟨rfl, hQ h' tk acc' c' (fun b o hb e => hk b o (Nat.ne_of_lt (Heap.lt_size e)) hb (oth b o (Nat.ne_of_lt (Heap.lt_size e)) (Heap.get?_push_of_some _ e))) hS' hacc⟩
end
def tLstRev (te : L2.St → Hp → (Int → Int → Hp → Prop) → Prop) : TE := fun σ H Q => te σ H fun a b H1 => RgOk a b ∧ (b - a).toNat < 2 ^ 24 ∧ ∀ q, H1 q = none → Q (.ref q) (upd H1 q (.lst (rgV a b).reverse))
theorem rg_rev (a b : Int) : (rgV a b).reverse = (List.range (b - a).toNat).map fun i => V.int (a + (((b - a).toNat : Nat) : Int) - 1 + (i : Nat) * (-1)) := by
  unfold rgV
  refine List.ext_getElem (by simp) fun i h1 h2 => ?_
  rw [List.getElem_reverse, List.getElem_map, List.getElem_map, List.getElem_range, List.getElem_range, List.length_map, List.length_range]
  rw [List.length_map, List.length_range] at h2
  congr 1
  omega
theorem vals_of {f : Nat → Int} {acc : Array Value} {n : Nat} (h : ItemsOf (fun i v => ∃ t, v = .int (f i) t) acc n) : Vals ((List.range n).map fun i => V.int (f i)) acc.toList := by
  have e : acc.toList.length = n := by rw [Array.length_toList]; exact h.1
  rw [← e]
  refine vals_of_get acc.toList _ fun j u hj => ?_
  obtain ⟨t, rfl⟩ := h.2 j u (by rw [← hj, Array.getElem?_toList])
  exact ⟨t, rfl⟩
section
variable {X : Cx} {e : Expr} {te : L2.St → Hp → (Int → Int → Hp → Prop) → Prop}
theorem pe_listRev {p pos p2 pos2 : Pos} (hc : X.calm = true) (hg : Gl X "list") (hm : X.mg "list" = none) (hg2 : Gl X "reversed") (hm2 : X.mg "reversed" = none) (he : PRg X e te)
    (na : starEach [.Call (.Name "reversed" p2) [e] [] pos2] X.env = (false, eval (.Call (.Name "reversed" p2) [e] [] pos2) X.env) :: starEach [] X.env := by rfl) (nb : starEach [e] X.env = (false, eval e X.env) :: starEach [] X.env := by rfl) :
    PE X (.Call (.Name "list" p) [.Call (.Name "reversed" p2) [e] [] pos2] [] pos) (tLstRev te) := by
  refine ⟨fun pins s σ H Q I h => ?_⟩
  refine Call_ (ld_blt I hg hm boot_list (PyProof.Rows.callWith_type1 (args_cons (Call_ (ld_blt I hg2 hm2 PyProof.Rows.boot_reversed (PyProof.Rows.callWith_type1 (args_cons (thn (he pins s σ H _ I h) fun x s1 ⟨r, a, b, t, u, v, H1, ex, hr, I1, ok, hb, q⟩ => args_nil ?_) nb) nb rfl))) na) na))
  subst ex
  obtain ⟨b1, b2, b3, b4, b5⟩ := ok
  have hn : Builtin.Range.rangeSize a b 1 = (((b - a).toNat : Nat) : Int) := rangeSize_nat a b
  refine call_reversed_range hr (smallRev_one b1 b2 b3 b4) (args_nil ?_)
  have hit : IsRangeIter (s1.heap.push (rngRevObj a b 1)) s1.heap.objs.size (a + (((b - a).toNat : Nat) : Int) - 1 + ((0 : Nat) : Int) * (-1)) ((((b - a).toNat : Nat) : Int) - ((0 : Nat) : Int)) (-1) := by
    have e1 : a + (((b - a).toNat : Nat) : Int) - 1 + ((0 : Nat) : Int) * (-1) = a + (Builtin.Range.rangeSize a b 1 - 1) * 1 := by rw [hn]; omega
    have e2 : (((b - a).toNat : Nat) : Int) - ((0 : Nat) : Int) = Builtin.Range.rangeSize a b 1 := by rw [hn]; omega
    rw [e1, e2]
    exact Heap.get?_push_size _ rfl
  have hsz : (s1.heap.push (rngRevObj a b 1)).objs.size = s1.heap.objs.size + 1 := size_push' ..
  refine call_list_rit (I1.ok.hd hc) hb hit fun h' tk acc c' hk e' hi => ?_
  have kp : ∀ x o, s1.heap.get? x = some o → h'.get? x = some o := fun x o z => hk x o (Nat.ne_of_lt (Heap.lt_size z)) (Heap.get?_push_of_some _ z)
  have ei := rg_rev a b
  have hlen : ((rgV a b).reverse).length ≤ sizeLine := by
    rw [List.length_reverse, rgV_length, sizeLine_eq]
    omega
  show EP X pins σ Q (.ref (s1.heap.push (rngRevObj a b 1)).objs.size) _
  rw [hsz] at e' ⊢
  refine ⟨.ref (s1.heap.objs.size + 1), upd H1 (s1.heap.objs.size + 1) (.lst (rgV a b).reverse), I1.laid (t' := tk) kp (Nat.le_succ _) ⟨hlen, acc.toList, c', ?_, ?_⟩, rfl, q _ (I1.hok.fresh (Nat.le_succ _))⟩
  · rw [ei]
    exact vals_of hi
  · rw [Array.toArray_toList]
    exact e'
end
end Ef
set_option maxHeartbeats 4000000
namespace Ef
open PySem PySem.Spec PyProof.Rows L2
/-! ### list(range(i, j, c)) -/
def rgC (i c : Int) (n : Nat) : List V := (List.range n).map fun k => V.int (i + (k : Nat) * c)
def tLstRgC (ta : TA) : TE := fun σ H Q => ta σ H fun vs H1 => ∃ (i j c : Int) (n : Nat), vs = [.int i, .int j, .int c] ∧ RgC i j c n ∧ n ≤ 2 ^ 24 ∧ ∀ q, H1 q = none → Q (.ref q) (upd H1 q (.lst (rgC i c n)))
section
variable {X : Cx}
theorem pe_listRgC {a b c : Expr} {ta : TA} {p pos p2 pos2 : Pos} (hc : X.calm = true) (hg : Gl X "list") (hm : X.mg "list" = none) (hg2 : Gl X "range") (hm2 : X.mg "range" = none) (ha : PA X [a, b, c] ta)
    (n1 : starEach [a, b, c] X.env = (false, eval a X.env) :: starEach [b, c] X.env := by rfl) (n2 : (backTo pos2 (starEach [b, c] X.env)).any (·.1) = false := by rfl)
    (n3 : starEach [.Call (.Name "range" p2) [a, b, c] [] pos2] X.env = (false, eval (.Call (.Name "range" p2) [a, b, c] [] pos2) X.env) :: starEach [] X.env := by rfl) :
    PE X (.Call (.Name "list" p) [.Call (.Name "range" p2) [a, b, c] [] pos2] [] pos) (tLstRgC ta) := by
  refine ⟨fun pins s σ H Q I h => ?_⟩
  refine Call_ (ld_blt I hg hm boot_list (PyProof.Rows.callWith_type1 (args_cons (Call_ (ld_blt I hg2 hm2 boot_range ?_)) n3) n3))
  refine PyProof.Rows.callWith_type1 ?_ n1 n2
  refine thn (ha.run pos2 pins s σ H _ I h) ?_
  rintro us s1 ⟨vs, H1, I1, r1, q1⟩
  obtain ⟨i, j, k, n, ev, ⟨c0, c1, c2, c3⟩, hn, q⟩ := q1
  subst ev
  match us, r1 with
  | [_, _, _], .cons ⟨t1, e1⟩ (.cons ⟨t2, e2⟩ (.cons ⟨t3, e3⟩ .nil)) =>
    subst e1 e2 e3
    refine call_range_3 c0 (args_nil ?_) (.inl (PyProof.noPylong_small c1))
    have I2 : Inv X pins σ H1 { s1 with heap := s1.heap.push { cls := .type "range", data := .fields #[.int i t1, .int j t2, .int k t3] } } := I1.kept (t' := s1.toks) fun _ _ z => Heap.get?_push_of_some _ z
    refine call_list_range (n := n) (I2.ok.hd hc) (IsRange.new ..) c2 c3 hn fun h' tk acc c' hk e' hi => ?_
    refine ⟨.ref _, upd H1 _ (.lst (rgC i k n)), I2.laid hk (Nat.le_refl _) (show ObjOk X.prog X.w _ _ _ (.lst (rgC i k n)) from ⟨?_, acc.toList, c', vals_of hi, ?_⟩), rfl, q _ (I2.hok.fresh (Nat.le_refl _))⟩
    · unfold rgC
      rw [List.length_map, List.length_range, sizeLine_eq]
      omega
    · rw [Array.toArray_toList]
      exact e'
end
/-! ### list(reversed(xs)), xs a list -/
section
variable {prog : Program} {w : World} {A : Around} {E : Value → Shared → Prop} {s : Shared} {I l : Addr} {xs : Array Value}
theorem extend_rev {R : Result → Shared → Prop} (hh : A.handled = none) (hn : xs.size ≤ sizeLine) (hit : s.heap.IsRevIter I l ((xs.size : Int) - 1)) (hl : s.heap.IsList l xs) (hne : l ≠ I) (S : Addr) (c₀ : Nat) (hSI : S ≠ I) (hSl : S ≠ l)
    (hS : s.heap.get? S = some { cls := .type "list", data := .seq #[] c₀ })
    (hR : ∀ h' tk acc' c', (∀ b o, b ≠ S → b ≠ I → s.heap.get? b = some o → h'.get? b = some o) → h'.get? S = some { cls := .type "list", dict := none, data := .seq acc' c', slots := #[] } →
      ItemsOf (fun i v => xs[xs.size - 1 - i]? = some v) acc' xs.size → R (.ok (.ret .none)) { s with heap := h', toks := tk }) :
    wpAny (model prog w) A.in1 (Builtin.List.listExtendWith (.ref S) (.ref I) .none)
      (fun fin s' => match fin with | .done f => R (.ok f) s' | .again c' => c'.quiet = true ∧ codeAny (model prog w) A c' R s') (fun e s' => R (.error e) s') s := by
  have Wk := (Walks.listRev (prog := prog) (w := w) (A := A.in1) hh I l hne xs).toS
  have hSf : S ∉ [I, l] := by
    intro hm
    rcases List.mem_cons.mp hm with z | z
    · exact hSI z
    · exact hSl (List.mem_singleton.mp z)
  have hT : s.TypeIs (.ref I) "list_reverseiterator" := Heap.IsRevIter.typeIs hit
  have z1 : Builtin.List.listSameRef (.ref S) (.ref I) = false := by simp [Builtin.List.listSameRef, hSI]
  unfold Builtin.List.listExtendWith
  refine wpAny_bind (wpAny_typeOf hT ?_)
  rw [if_neg (by rw [z1]; decide)]
  refine wpAny_bind (wpAny_pyIter_revIter hit (wpAny_bind (wpAny_holding ?_)))
  unfold Builtin.List.listLengthHint
  refine wpAny_bind (wpAny_specialOf hT RT.nolen_lri ?_)
  show wpAny _ A.in1 (specialOf (Value.ref I) (Str.ofString "__length_hint__") >>= _) _ _ _
  refine wpAny_bind (wpAny_specialOf hT RT.hint_lri ?_)
  generalize hid : ("list_reverseiterator.__length_hint__" : String) = id1
  wp_delta
  rw [show splitId id1 = some ("list_reverseiterator", "__length_hint__") from by subst hid; decide +kernel]
  subst hid
  refine wpAny_bind (wpAny_isInstance (b := true) hT (by rw [isSubtype_type]; kernel_rfl) ?_)
  refine wpAny_pure ?_
  rw [if_neg (by decide)]
  have z0 : ((xs.size : Nat) : Int) - 1 - ((0 : Nat) : Int) = (xs.size : Int) - 1 := by omega
  refine wpAny_pure ⟨plainId_quiet F.plain_extend_loop _, codeAny_extend_loopS Wk hn S hSf .none xs.size 0 _ #[] c₀ rfl (Nat.zero_le _) ⟨Nat.zero_le _, by rw [z0]; exact hit, hl⟩ hS (ItemsOf.nil _) fun s' acc' c' hm hS' hacc => ?_⟩
  rw [Moved.eq_with hm]
  refine hR s'.heap s'.toks acc' c' (fun b o hb hb2 e => hm.heap b o (fun hmem => ?_) e) hS' hacc
  rcases List.mem_cons.mp hmem with z | hmem
  · exact hb z
  · exact hb2 (List.mem_singleton.mp hmem)
theorem call_list_rev {Q : Value → Shared → Prop} (hh : A.handled = none) (hn : xs.size ≤ sizeLine) (hit : s.heap.IsRevIter I l ((xs.size : Int) - 1)) (hl : s.heap.IsList l xs) (hne : l ≠ I)
    (hQ : ∀ h' tk acc' c', (∀ b o, b ≠ I → s.heap.get? b = some o → h'.get? b = some o) →
      h'.get? s.heap.objs.size = some { cls := .type "list", dict := none, data := .seq acc' c', slots := #[] } → ItemsOf (fun i v => xs[xs.size - 1 - i]? = some v) acc' xs.size → Q (.ref s.heap.objs.size) { s with heap := h', toks := tk }) :
    wpAny (model prog w) A (call (.type "list") [.ref I]) Q E s := by
  obtain ⟨oi, hoi, _⟩ := id hit
  obtain ⟨ol, hol, _⟩ := id hl
  have hIl := Heap.lt_size hoi
  have hll := Heap.lt_size hol
  refine callType_codes (Q₁ := fun obj s₁ => obj = .ref s.heap.objs.size ∧ s₁ = { s with heap := s.heap.push { cls := .type "list", data := .seq #[] } }) F.called_list (F.typeCall_list_1 _) F.entry_list_init
    (code_list_new _ ⟨rfl, rfl⟩) fun obj s₁ h₁ => ?_
  obtain ⟨rfl, rfl⟩ := h₁
  have hS : (s.heap.push { cls := .type "list", data := .seq #[] }).get? s.heap.objs.size = some { cls := .type "list", data := .seq #[] } := Heap.get?_push_size _ rfl
  refine ⟨⟨_, hS, rfl⟩, F.args_list_init_2 _ _, ?_⟩
  show wpAny _ _ (do let old ← Builtin.List.listItems (.ref s.heap.objs.size); Builtin.List.listUpdate (.ref s.heap.objs.size) (fun _ => #[]); letGo old.toList.reverse; Builtin.List.listExtendWith (.ref s.heap.objs.size) (.ref I) .none) _ _ _
  refine wpAny_bind ?_
  unfold Builtin.List.listItems
  refine wpAny_bind (wpAny_seqItems hS rfl (wpAny_pure ?_))
  show wpAny _ _ (updateSeq s.heap.objs.size (fun _ => #[]) >>= fun _ => letGo (#[] : Array Value).toList.reverse >>= fun _ => Builtin.List.listExtendWith (.ref s.heap.objs.size) (.ref I) .none) _ _ _
  refine wpAny_bind (wpAny_updateSeq hS rfl ?_)
  have hS₂ := Heap.get?_update_self (Obj.mapSeq (fun _ => (#[] : Array Value))) hS rfl
  have oth : ∀ b o, b ≠ s.heap.objs.size → (s.heap.push { cls := .type "list", data := .seq #[] }).get? b = some o → ((s.heap.push { cls := .type "list", data := .seq #[] }).update s.heap.objs.size (Obj.mapSeq (fun _ => (#[] : Array Value)))).get? b = some o :=
    fun b o hb e => (Heap.get?_update_other _ _ (Ne.symm hb)).trans e
  refine wpAny_bind (wpAny_letGo ?_)
  have kp : ∀ b o, s.heap.get? b = some o → ((s.heap.push { cls := .type "list", data := .seq #[] }).update s.heap.objs.size (Obj.mapSeq (fun _ => (#[] : Array Value)))).get? b = some o := fun b o e => oth b o (Nat.ne_of_lt (Heap.lt_size e)) (Heap.get?_push_of_some _ e)
  refine extend_rev (A := A.in1) hh hn (hit.at fun o e => kp _ o e) (hl.at fun o e => kp _ o e) hne s.heap.objs.size _ (Nat.ne_of_gt hIl) (Nat.ne_of_gt hll) hS₂ fun h' tk acc' c' hk hS' hacc => ?_
  exact ⟨rfl, hQ h' tk acc' c' (fun b o hb e => hk b o (Nat.ne_of_lt (Heap.lt_size e)) hb (kp b o e)) hS' hacc⟩
end
def tLstRevL (K : PySem.W.Frag) (te : TE) : TE := fun σ H Q => te σ H fun v H1 => ∃ (a : Addr) (xs : List V), v = .ref a ∧ SqL K H1 a xs ∧ ∀ q, H1 q = none → Q (.ref q) (upd H1 q (.lst xs.reverse))
section
variable {X : Cx}
theorem pe_listRevL {e : Expr} {te : TE} {p p2 pos pos2 : Pos} (hc : X.calm = true) (hg : Gl X "list") (hm : X.mg "list" = none) (hg2 : Gl X "reversed") (hm2 : X.mg "reversed" = none) (he : PE X e te)
    (hs : starEach [e] X.env = (false, eval e X.env) :: starEach [] X.env := by rfl)
    (hs2 : starEach [.Call (.Name "reversed" p2) [e] [] pos2] X.env = (false, eval (.Call (.Name "reversed" p2) [e] [] pos2) X.env) :: starEach [] X.env := by rfl) :
    PE X (.Call (.Name "list" p) [.Call (.Name "reversed" p2) [e] [] pos2] [] pos) (tLstRevL X.K te) := by
  refine ⟨fun pins s σ H Q I h => ?_⟩
  refine Call_ (ld_blt I hg hm boot_list (PyProof.Rows.callWith_type1 (args_cons (Call_ (ld_blt I hg2 hm2 PyProof.Rows.boot_reversed (PyProof.Rows.callWith_type1 (args_cons (thn (he.run pins s σ H _ I h) fun u s1 ⟨v, H1, I1, r1, q1⟩ => args_nil ?_) hs) hs rfl))) hs2) hs2 rfl))
  obtain ⟨a, xs, ev, hq, q⟩ := q1
  subst ev
  obtain rfl : u = Value.ref a := r1
  obtain ⟨its, rv, pl, hz⟩ := I1.list hq
  refine call_reversed_list pl.isList (args_nil ?_)
  have I2 : Inv X pins σ H1 { s1 with heap := s1.heap.push (revObj a ((its.toArray.size : Int) - 1)) } := I1.kept (t' := s1.toks) fun b o z => Heap.get?_push_of_some _ z
  obtain ⟨f0, f1, f2, f3, f4, f5⟩ := I1.fpOk (H' := H1) (b := s1.heap.objs.size) (Nat.le_refl _) (I1.hok.fresh (Nat.le_refl _))
  have hl := pl.isList
  obtain ⟨ol, hol, _⟩ := id hl
  have hsz : (s1.heap.push (revObj a ((its.toArray.size : Int) - 1))).objs.size = s1.heap.objs.size + 1 := size_push' ..
  refine call_list_rev (s := { s1 with heap := s1.heap.push (revObj a ((its.toArray.size : Int) - 1)) }) (I1.ok.hd hc) (by rw [List.size_toArray, ← rv.length]; exact hz) ⟨_, Heap.get?_push_size _ rfl, rfl, rfl⟩ (hl.push _) (Nat.ne_of_lt (Heap.lt_size hol)) fun h' tk acc c' hk e' hi => ?_
  have I3 : Inv X pins σ H1 { s1 with heap := h', toks := tk } := I2.turned (t' := tk) (fun b o hb z => hk b o hb z) f0 f1 f3 f4 f5
  have kp : ∀ b o, s1.heap.get? b = some o → h'.get? b = some o := fun b o z => hk b o (Nat.ne_of_lt (Heap.lt_size z)) (Heap.get?_push_of_some _ z)
  show EP X pins σ Q (.ref (s1.heap.push (revObj a ((its.toArray.size : Int) - 1))).objs.size) _
  rw [hsz]
  have e2 : h'.get? (s1.heap.objs.size + 1) = some { cls := .type "list", dict := none, data := .seq acc c', slots := #[] } := by
    rw [← hsz]
    exact e'
  refine ⟨.ref (s1.heap.objs.size + 1), upd H1 (s1.heap.objs.size + 1) (.lst xs.reverse), I1.laid (t' := tk) kp (Nat.le_succ _) ⟨by rw [List.length_reverse]; exact hz, acc.toList, c', RT.vals_rev rv hi, ?_⟩, rfl, q _ (I1.hok.fresh (Nat.le_succ _))⟩
  rw [Array.toArray_toList]
  exact e2
end
end Ef
namespace Ef
open PySem PySem.Spec PyProof.Rows L2
/-! ### repr of a list of one value of any sort -/
section
variable {X : Cx} {es : List Expr} {t : TA} {pos : Pos}
def tLstN (t : TA) : TE := fun σ H Q => t σ H fun xs H1 => xs.length ≤ sizeLine ∧ ∀ p, H1 p = none → p ≠ sysModules → Q (.ref p) (upd H1 p (.lst xs))
theorem far_new {pins : List (Addr × Obj)} {σ : L2.St} {H : Hp} {s : Shared} (I : Inv X pins σ H s) : s.heap.objs.size ≠ sysModules := by
  obtain ⟨mc, h1, _⟩ := I.nolimit
  have h2 : cStatics < s.heap.objs.size := h1.lt
  have h3 : (2 : Nat) < s.heap.objs.size := h2
  show ¬ s.heap.objs.size = 1
  omega
theorem pe_lstN (h : PA X es t) : PE X (.List es pos) (tLstN t) := by
  refine ⟨fun pins s σ H Q I hq => ?_⟩
  refine wpAny_List_spliced (thn (h.run pos pins s σ H _ I hq) fun us s1 ⟨xs, H1, I1, r, z, q⟩ => ⟨by rw [← r.length]; exact z, ?_⟩)
  have hf : H1 s1.heap.objs.size = none := I1.hok.fresh (Nat.le_refl _)
  refine ⟨.ref s1.heap.objs.size, upd H1 s1.heap.objs.size (.lst xs), I1.laid (t' := s1.toks) (fun b u e => Heap.get?_push_of_some _ e) (Nat.le_refl _) ?_, rfl, q _ hf (far_new I1)⟩
  exact ⟨z, us, 0, r, Heap.get?_push_size _ rfl⟩
end
/-- data that is not deep, or an empty dict -/
def ItemS (K : PySem.W.Frag) (H : Hp) (v : V) (d : PyData) : Prop := (Dp K H v d ∧ Sh 50 70000 d) ∨ (d = .dict [] ∧ ∃ p, v = .ref p ∧ H p = some (.dK []))
theorem ItemS.mono {K : PySem.W.Frag} {H H' : Hp} {v : V} {d : PyData} (s : Same H H') (h : ItemS K H v d) : ItemS K H' v d := by
  rcases h with ⟨h, h2⟩ | ⟨e, p, e2, h⟩
  · exact .inl ⟨Dp.mono s h, h2⟩
  · exact .inr ⟨e, p, e2, s _ _ h⟩
def rReprL (K : PySem.W.Frag) : List V → Hp → VK → Prop := fun xs H Q => ∃ l v d, xs = [.ref l] ∧ H l = some (.lst [v]) ∧ l ≠ sysModules ∧ ItemS K H v d ∧ Q (.str (PyData.list [d]).shown) H
section
variable {X : Cx} (K : PySem.W.Frag)
theorem call_reprL (gd : X.A.guards = some []) (hu : X.A.units + 66 < cLine) (h : X.K = K := by rfl) : CallR X (.builtin "repr") (rReprL K) := by
  subst h
  intro pins s σ H xs us Q I r h
  obtain ⟨l, v, d, rfl, hl, hne, hI, q⟩ := h
  rcases hI with ⟨hD, hS⟩ | ⟨rfl, p, rfl, hp⟩
  · refine call_reprD gd hu pins s σ H _ us Q I r ⟨.ref l, .list [d], rfl, .lst (SqL.of hl) (.cons hD .nil), ?_, q⟩
    exact (Sh.lst (ShAll.cons hS (ShAll.nil.mono (Nat.zero_le 50) (Nat.zero_le 0)))).mono (by decide) (by decide)
  · obtain ⟨u, rfl, ru⟩ := vals1 r
    obtain rfl : u = Value.ref l := ru
    obtain ⟨_, hsys, vs, kv, o, es, ep, ho, hx, hd, hk, hpr, hn⟩ := dk_of I.hok hp
    have e1 : vs = [] := by
      cases kv
      rfl
    subst e1
    have e2 : es.toList = [] := by
      generalize es.toList = l at hpr ⊢
      cases hpr
      rfl
    have rd : Reads s.heap (.ref p) (.dict []) (p :: [] ++ []) := by
      refine .dict ho hx.1 hd ?_ ?_
      · rw [e2]
        exact .nil
      · rw [e2]
        exact .nil
    obtain ⟨its, rv, ⟨ol, nl, g1, g2, g3, g4⟩, hz⟩ := I.list (SqL.of hl)
    obtain ⟨u, rfl, ru⟩ := vals1 rv
    obtain rfl : u = Value.ref p := ru
    have dep : PyData.depth (.list [.dict []]) ≤ 3 := by decide
    have rdl : Reads s.heap (.ref l) (.list [.dict []]) (l :: ((p :: [] ++ []) ++ [])) := .list g1 g2 (by first | exact g3 | exact g4) (.cons rd .nil)
    refine repr_of_reads' rdl rfl (fun _ hm => ?_) gd (by omega) (fun _ _ e => e) (fun h' u tk hk => ?_) (by decide +kernel)
    · have e3 : sysModules = l ∨ sysModules = p := by simpa using hm
      rcases e3 with e3 | e3
      · exact hne e3.symm
      · rw [← e3] at hsys
        exact absurd hsys (by simp)
    · exact ⟨.str _, H, I.kept hk, ⟨u, rfl⟩, q⟩
end
section
variable {X : Cx} (K : PySem.W.Frag)
theorem cr_allK (hc : X.calm = true := by rfl) (h : X.K = K := by rfl) : CallR X (.builtin "all") (rAll K) := h ▸ cr_all hc
end
end Ef
namespace Ef
open PySem PySem.Spec PyProof.Rows L2
/-! ### data: equal to itself, shown -/
theorem neD_same {K : PySem.W.Frag} {H : Hp} {x y : V} {d : PyData} {Q : VK} (hx : Dp K H x d) (hy : Dp K H y d) (s : Sh 60 80000 d) (q : Q (.bl false) H) : rNeD K x y H Q := by
  refine ⟨d, d, hx, hy, s.shaped (by decide), s.shaped (by decide), ?_⟩
  rw [SeqAt.eqv_refl d s.can]
  exact q
theorem eqD_same {K : PySem.W.Frag} {H : Hp} {x y : V} {d : PyData} {Q : VK} (hx : Dp K H x d) (hy : Dp K H y d) (s : Sh 60 80000 d) (q : Q (.bl true) H) : rEqD K x y H Q := by
  refine ⟨d, d, hx, hy, s.shaped (by decide), s.shaped (by decide), ?_⟩
  rw [SeqAt.eqv_refl d s.can]
  exact q
/-- numbers as data -/
def natD (ms : List Nat) : List PyData := ms.map fun (m : Nat) => PyData.int (m : Int)
theorem sh_nat {ms : List Nat} {b : Nat} (h0 : 0 < b) (h6 : b ≤ 600) (h : ∀ x ∈ ms, x < 2 ^ b) : ShAll 0 ((b + 1) * ms.length) (natD ms) := by
  have e : natD ms = (ms.map fun (m : Nat) => (m : Int)).map PyData.int := by
    unfold natD
    rw [List.map_map]
    rfl
  rw [e]
  have h1 := ShAll.ints h0 h6 (ns := ms.map fun (m : Nat) => (m : Int)) fun x hx => by
    obtain ⟨m, hm, rfl⟩ := List.mem_map.mp hx
    exact h m hm
  rw [List.length_map] at h1
  exact h1
theorem sh_list {ms : List Nat} (hl : ms.length ≤ 60) (h : ∀ x ∈ ms, x < 60) : Sh 1 500 (.tuple (natD ms)) := by
  have h1 := sh_nat (b := 6) (by decide) (by decide) (ms := ms) fun x hx => by
    have := h x hx
    omega
  exact Sh.tup (h1.mono (by decide) (by omega))
end Ef
namespace Ef
open PySem PySem.Spec PyProof.Rows L2 LamX
/-! ### a law that makes lambdas: its end -/
/-- the code object of the def at f -/
def CodeOf (K : PySem.W.Frag) (f c : Addr) : Prop := ∃ (o : Obj) (fd : FuncData), K.lookup f = some o ∧ o.data = .func fd ∧ fd.code = .ref c
theorem codeOf_tab {K : PySem.W.Frag} {x : Str} {f c P : Addr} (h1 : PySem.W.nsIn K mainGlobals x = some (some (.ref f))) (h2 : PySem.W.tabIn K x = some (c, P)) : CodeOf K f c := by
  unfold PySem.W.tabIn at h2
  rw [h1] at h2
  dsimp only at h2
  split at h2
  · rename_i fd osl e
    split at h2
    · rename_i c2 ec
      split at h2
      · split at h2
        · obtain ⟨rfl, _⟩ := Prod.mk.inj (Option.some.inj h2)
          exact ⟨_, fd, e, rfl, ec⟩
        · cases h2
      · cases h2
    · cases h2
  · cases h2
section
variable {P : Program} {w : World} {K : PySem.W.Frag} {mg : Str → Option Value} {base : Heap}
theorem Fun_ok0C {x qual : Str} {st : Stmt} {f c : Addr} {fd : FuncData} {N ps : List Str} {k : Nat} {sp : Sp} (F : Fun K x qual st f fd) (co : CodeOf K f c) (S : FnScope N ps (defScope st)) (len : ∀ vs H Q E, sp vs H Q E → vs.length = ps.length)
    (bod : ∀ (A : Around) (outer : List Env) (s : Shared) (H : Hp) (vs : List V) (Q : VK) (E : XK), A.guards = some [] → Room k (A.deeper (envOfC qual (defScope st) s.heap.objs.size f (.ref c))) → sp vs H Q E →
      ∃ t, PSs (cxOf CX0 P w K mg base N qual (defScope st) f (.ref c) A outer s H E).nox (defBody st) t ∧ t { nx := fun _ H' => Q .non H', rt := Q } (start N vs) H) :
    FnG P w K mg base CX0 (k + 1) f fd ps sp := by
  obtain ⟨oc, od, kV, doc, pm, an, cdv, ct, osl, rfl, lk, hcd⟩ := F.ex
  obtain ⟨o, fd2, e1, e2, e3⟩ := co
  have ecd : cdv = .ref c := by
    rw [lk] at e1
    obtain rfl := Option.some.inj e1
    cases e2
    exact e3
  subst ecd
  refine ⟨len, fun A gd outer s H args us vs Q E room e0 bnd rel wish => ?_⟩
  refine run_ofS (N := N) (ps := ps) lk hcd S room e0 bnd rel (len _ _ _ _ wish) fun hr => ?_
  obtain ⟨t, pt, rd⟩ := bod A outer s H vs Q E gd hr wish
  exact ⟨t, pt.nox, rd⟩
end
def tabHp (K : PySem.W.Frag) (a : Addr) (vs : List Value) (ns : List Int) (ts : List Addr) : Hp := fun b => if b ∈ ts then some (.tbl #[]) else scriptHp K a vs ns b
section
variable {K : PySem.W.Frag} {a : Addr} {vs : List Value} {ns : List Int} {ts : List Addr}
theorem tabHp_in {b : Addr} (h : b ∈ ts) : tabHp K a vs ns ts b = some (.tbl #[]) := if_pos h
theorem tabHp_out {b : Addr} (h : b ∉ ts) : tabHp K a vs ns ts b = scriptHp K a vs ns b := if_neg h
theorem tabHp_some {b : Addr} {u : HO} (h : tabHp K a vs ns ts b = some u) : (b ∈ ts ∧ u = .tbl #[]) ∨ (b ∉ ts ∧ b = a ∧ K.lookup a = none ∧ u = .frz (scriptObj vs) (.lst (ns.map V.int))) := by
  by_cases c : b ∈ ts
  · rw [tabHp_in c] at h
    exact .inl ⟨c, (Option.some.inj h).symm⟩
  · rw [tabHp_out c] at h
    exact .inr ⟨c, scriptHp_some h⟩
theorem tabHp_none {b : Addr} {o : Obj} {h : Heap} (ht : ∀ p ∈ ts, h.get? p = some (PySem.W.tabObj #[])) (ha : h.get? a = some (scriptObj vs)) (e : h.get? b = some o) (hd : ∀ its n, o.data ≠ .seq its n) (hf : o.data ≠ .fields #[]) : tabHp K a vs ns ts b = none := by
  have nb : b ∉ ts := fun z => by
    have e2 := ht b z
    rw [e] at e2
    obtain rfl := Option.some.inj e2
    exact hf rfl
  rw [tabHp_out nb]
  exact scriptHp_none ha e hd
end
/-- what is asked of a law with tables: cs tells the defs that make lambdas, their code objects and tables -/
def LawT (q : Program) (l : PySem.W.OpenLaw) (w : World) (K : PySem.W.Frag) (k n : Nat) (x : Str) (mg : Str → Option Value) (fa : Addr) : Prop :=
  ∃ (fd : FuncData) (cs : List (Str × Addr × Addr)) (sp : Sp), (∀ p ∈ cs, PySem.W.tabIn K p.1 = some p.2 ∧ K.lookup p.2.2 = none ∧ ((recsOf q).find? fun e => e.name == p.1).isSome = true) ∧
    (∀ (s : Shared) (u : Value), BindsTo s fd ⟨[u], []⟩ [(x, u)]) ∧
    (∀ (H : Hp) (a : Addr) (ns : List Int), ns.length ≤ n → (∀ p ∈ cs, H p.2.2 = some (.tbl #[])) → SqL K H a (ns.map V.int) → sp [.ref a] H (fun v _ => v = .bl true) fun _ _ _ => False) ∧
    ∀ base : Heap, K.In base → base.Ns mainGlobals mg → (∀ p ∈ cs, TabB base mg p.2.1 p.2.2) → FnG l.prog w K mg base CX0 k fa fd [x] sp
theorem lawGT {l : PySem.W.OpenLaw} {n k : Nat} {q : Program} {loose : List Str} {XP : (Str → Option Value) → Heap → Prop} {YP : World → Heap → Prop} {d : DefRec} {K : Params → PySem.W.Frag} {x : Str}
    (hn : l.most = some n) (hn2 : n ≤ sizeLine) (hdf : d.params.defaults = []) (room : Room k callerA)
    (hY : ∀ (w : World) (h : Heap), YP w h → (K w.params).In h)
    (F : ∀ (w : World) (mg : Str → Option Value) (fa : Addr) (h : Heap), (K w.params).In h → h.Ns mainGlobals mg → mg d.name = some (.ref fa) → LawT q l w (K w.params) k n x mg fa) :
    PySem.W.WalkO q loose XP YP l.row.toRowW d [] (fun f vs => PySem.call f vs) := by
  refine Att.attach_call hn hdf fun w s₀ s₁ mg mb fa o pm cd doc a vs ns G Y ho hd hcd hmg hobj hints hlen hgen => ?_
  have kin := hY w _ Y
  obtain ⟨fd, cs, sp, tbs, bnd, hsp, FF⟩ := F w mg fa _ kin G.T.g hmg
  have ha : s₁.heap.get? a = some (scriptObj vs) := hobj
  have short : ns.length ≤ sizeLine := Nat.le_trans hlen hn2
  have tabs : ∀ p ∈ cs, PySem.W.CodeHd s₁.heap p.2.1 p.2.2 ∧ s₁.heap.get? p.2.2 = some (PySem.W.tabObj #[]) := fun p hp => by
    obtain ⟨t1, t2, t3⟩ := tbs p hp
    obtain ⟨dr, hdr⟩ := Option.isSome_iff_exists.mp t3
    exact PySem.W.tab_of G.T kin hdr t1
  have ht : ∀ b ∈ cs.map (fun p => p.2.2), s₁.heap.get? b = some (PySem.W.tabObj #[]) := fun b hb => by
    obtain ⟨p, hp, rfl⟩ := List.mem_map.mp hb
    exact (tabs p hp).2
  have mem : ∀ p ∈ cs, p.2.2 ∈ cs.map (fun p => p.2.2) := fun p hp => List.mem_map.mpr ⟨p, hp, rfl⟩
  have na : a ∉ cs.map (fun p => p.2.2) := fun z => by
    have e := ht a z
    rw [ha] at e
    have e2 := congrArg Obj.data (Option.some.inj e)
    cases e2
  generalize hH : tabHp (K w.params) a vs ns (cs.map fun p => p.2.2) = H
  have some' : ∀ {b : Addr} {u : HO}, H b = some u → (b ∈ cs.map (fun p => p.2.2) ∧ u = .tbl #[]) ∨ (b ∉ cs.map (fun p => p.2.2) ∧ b = a ∧ (K w.params).lookup a = none ∧ u = .frz (scriptObj vs) (.lst (ns.map V.int))) := fun z => by
    rw [← hH] at z
    exact tabHp_some z
  have none' : ∀ {b : Addr} {o : Obj}, s₁.heap.get? b = some o → (∀ its n, o.data ≠ .seq its n) → o.data ≠ .fields #[] → H b = none := fun e h1 h2 => by
    rw [← hH]
    exact tabHp_none ht ha e h1 h2
  have keep0 : ∀ {b : Addr} {o : Obj}, s₁.heap.get? b = some o → H b = none → (hidT s₁.heap H).get? b = some o := fun e z => hidT_get e z
  have nsK : ∀ {b : Addr} {m : Str → Option Value}, s₁.heap.Ns b m → (hidT s₁.heap H).Ns b m := by
    rintro b m ⟨o, es, ep, e, dd, r⟩
    refine ⟨o, es, ep, keep0 e (none' e (fun its n z => ?_) fun z => ?_), dd, r⟩ <;> · rw [dd] at z; cases z
  have kinB : (K w.params).In (hidT s₁.heap H) := fun b o e => keep0 (kin b o e) (by
    cases z : H b with
    | none => rfl
    | some u =>
      rcases some' z with ⟨z1, _⟩ | ⟨_, rfl, z2, _⟩
      · obtain ⟨p, hp, rfl⟩ := List.mem_map.mp z1
        rw [(tbs p hp).2.1] at e
        cases e
      · rw [z2] at e
        cases e)
  have hM : Mod (K w.params) mg (hidT s₁.heap H) := by
    obtain ⟨mc, h1, h2⟩ := G.T.nolimit
    exact ⟨kinB, nsK G.T.g, ⟨mb, nsK G.T.b, G.T.builtins⟩, ⟨mc, nsK h1, h2⟩⟩
  have hok : HOk l.prog w H s₁.heap := fun b u z => by
    rcases some' z with ⟨z1, rfl⟩ | ⟨_, rfl, _, rfl⟩
    · exact ht b z1
    · exact ⟨ha, by rw [List.length_map]; exact short, vs, _, vals_ints hints, ha⟩
  have hS : SqL (K w.params) H a (ns.map V.int) := by
    cases hk : (K w.params).lookup a with
    | none =>
      refine .inl (.inr ⟨scriptObj vs, ?_⟩)
      rw [← hH, tabHp_out na]
      exact if_pos ⟨rfl, hk⟩
    | some o =>
      have e := kin a o hk
      rw [ha] at e
      obtain rfl := Option.some.inj e
      exact .inr ⟨_, vs.toArray, _, hk, rfl, rfl, rfl, by rw [List.size_toArray, hints.length]; exact short, by simpa using vals_ints hints⟩
  have hT : ∀ p ∈ cs, H p.2.2 = some (.tbl #[]) := fun p hp => by
    rw [← hH]
    exact tabHp_in (mem p hp)
  have TB : ∀ p ∈ cs, TabB (hidT s₁.heap H) mg p.2.1 p.2.2 := fun p hp => by
    obtain ⟨c1, c2⟩ := tabs p hp
    refine ⟨?_, ?_, fun z => ?_⟩
    · obtain ⟨o, us, file, tf, flags, tg, inF, text, tt, e1, r1, r2, r3, rr⟩ := c1
      refine ⟨o, us, file, tf, flags, tg, inF, text, tt, keep0 e1 (none' e1 (fun its n z => ?_) fun z => ?_), r1, r2, r3, rr⟩
      · rw [r2] at z
        cases z
      · rw [r2] at z
        cases z
        simp at r3
    · obtain ⟨bm, ob, b1, b2, b3, b4, b5, b6⟩ := G.T.bmain
      refine ⟨bm, ob, b1, b2, fun z => ?_, fun z => ?_, keep0 b3 (none' b3 (fun its n z => ?_) fun z => ?_), b4, b5, b6⟩
      · obtain ⟨o, es, ep, e, dd, _⟩ := G.T.g
        rw [z, e] at b3
        cases b3
        rw [dd] at b6
        cases b6
      · rw [z, c2] at b3
        cases b3
        cases b6
      · rw [b6] at z
        cases z
      · rw [b6] at z
        cases z
    · obtain ⟨o, es, ep, e, dd, _⟩ := G.T.g
      rw [z, c2] at e
      cases e
      cases dd
  have e0 : Env0 l.prog w (K w.params) mg (hidT s₁.heap H) callerA [] s₁ H :=
    ⟨rfl, hM, fun b o e => of_hidT e, Nat.le_of_eq (hidT_size _ _), trivial, fun b z => absurd (show b ∈ ([] : List Addr) from z) (by simp), hok, .of_eq hgen⟩
  refine codeAny_mono ((FF _ kinB (nsK G.T.g) TB).run callerA rfl [] s₁ _ ⟨[.ref a], []⟩ [.ref a] [.ref a] _ _ room e0 (bnd s₁ (.ref a)) (.cons rfl .nil) (hsp _ a ns hlen hT hS)) fun r s' got => ?_
  cases r with
  | error e => exact got.elim
  | ok fl =>
    cases fl with
    | next => exact got.elim
    | brk => exact got.elim
    | cont => exact got.elim
    | ret u =>
      obtain ⟨v, H', os, bare, un, hok', rv, z⟩ := got
      obtain rfl : v = .bl true := z
      obtain rfl : u = Value.bool true := rv
      have grown : ∀ p ∈ cs, ∃ more : Array Value, s'.heap.get? p.2.2 = some (PySem.W.tabObj more) := fun p hp => by
        obtain ⟨more, z⟩ := un.tbls p.2.2 #[] (hT p hp)
        exact ⟨_, hok' p.2.2 _ z⟩
      have old : ∀ b o, b ∉ cs.map (fun p => p.2.2) → s₁.heap.get? b = some o → s'.heap.get? b = some o := fun b o nb e => by
        cases z : H b with
        | none => exact un.keep b o e z (fun y => absurd (show b ∈ ([] : List Addr) from y) (by simp)) (by simp)
        | some u =>
          rcases some' z with ⟨z1, _⟩ | ⟨_, rfl, _, rfl⟩
          · exact absurd z1 nb
          · obtain ⟨e2, _⟩ := hok' b _ (un.frzs b _ _ z)
            rw [ha] at e
            obtain rfl := Option.some.inj e
            exact e2
      refine ⟨rfl, ⟨fun b o e => ?_, fun b o e => ?_⟩, os, bare⟩
      · by_cases c : b ∈ cs.map (fun p => p.2.2)
        · obtain ⟨p, hp, rfl⟩ := List.mem_map.mp c
          obtain ⟨more, hm⟩ := grown p hp
          obtain ⟨c1, c2⟩ := tabs p hp
          rw [c2] at e
          obtain rfl := Option.some.inj e
          exact .inr (.inl ⟨(c1.tab c2).isCodeTable, rfl, #[], more, rfl, by rw [Array.empty_append]; exact hm⟩)
        · exact .inl (old b o c e)
      · by_cases c : b ∈ cs.map (fun p => p.2.2)
        · obtain ⟨p, hp, rfl⟩ := List.mem_map.mp c
          obtain ⟨more, hm⟩ := grown p hp
          exact ⟨_, hm⟩
        · exact ⟨o, old b o c e⟩
/-! ### the rules -/
section
variable {X : Cx}
theorem pe_lam {T : List (Addr × Str)} {TT : (XK → Hp → VK → Prop) → Hp → VK → Prop} {x a : Str} {g c P : Addr} {k : Nat} {st : Stmt} {fd : FuncData} {Ng : List Str} {params : Arguments} {body : Expr} {scope : Scope} {t : XK → TE} {p lpos pos : Pos}
    (F : Fun X.K x x st g fd) (hg : Gl X x) (hm : X.mg x = some (.ref g)) (hb : L2.Binds X.K fd [a] []) (Sg : FnScope Ng [a] (defScope st)) (hNg : Ng[0]? = some a) (hva : Vis (defScope st) a)
    (hG : ∀ cdg, GivesTo X Ng x (defScope st) g cdg (defBody st) a (X.env.qual ++ "<lambda>") TT)
    (TB : TabB X.base X.mg c P) (hcode : X.env.code = .ref c) (hmT : (P, X.env.qual ++ "<lambda>") ∈ T) (hu : ∀ p ∈ T, p.1 = P → p.2 = X.env.qual ++ "<lambda>") (hr : Room (k + 2) X.A) (L : LamS X.env.scope scope)
    (hbody : ∀ (A : Around) (outer : List Env) (s : Shared) (H : Hp) (E : XK) (f c' : Addr), Room k (A.deeper (lamEnv X scope s.heap.objs.size f c')) → PE (lamCx X A outer s H E scope f c') body (t E))
    (hdef : defaultsOf params X.env = ([], []) := by rfl)
    (hbind : ∀ (q : Str) (cl : List (Str × Addr)) (pm cv ctv : Value), bindArgs (PySem.W.kla_fn "<lambda>" q params body scope cl pm cv ctv) ⟨[], []⟩ = pure [] := by intros; rfl)
    (hdb : (x == ("__debug__" : Str)) = false := by decide) (hd : (a == ("__debug__" : Str)) = false := by decide) (hcd : (a == ("__classdict__" : Str)) = false := by decide) :
    PE X (.Call (.Name x p) [.Lambda params body scope lpos] [] pos) (tLam T TT t) := by
  obtain ⟨oc, od, kV, doc, pm, an, cdv, ct, osl, rfl, lk, hcg⟩ := F.ex
  exact pe_lamcall hg hm F.kp lk hcg hb Sg hNg hva (hG cdv) TB hcode hmT hu hr L hdef hbind hbody hdb hd hcd
theorem takes_len {W : WX} (t : Takes X W) : Takes X (fun c d σ H => σ.length = X.N.length → W c d σ H) := fun u s' ⟨a, B, sI, pins, σ, H, cls, d, e, I, nb, up, sky, na, os, ag, w⟩ =>
  t u s' ⟨a, B, sI, pins, σ, H, cls, d, e, I, nb, up, sky, na, os, ag, w I.len⟩
/-- the call of what was handed in -/
def tAct (n : Nat) (W : WX) (f c' : Addr) (q : Str) (tl : XK → Hp → VK → Prop) : TE := fun σ H Q => ∃ E : XK, (∀ cls d σ' H', E cls d H' → σ'.length = n → W cls d σ' H') ∧ σ[0]? = some (some (.ref f)) ∧ H c' = some (CodeO c' q) ∧ tl E H Q
theorem pe_actE {f c' : Addr} {q : Str} {tl : XK → Hp → VK → Prop} {e : Expr} {W : WX} (n : Nat) (tk : Takes X W)
    (act : ∀ E : XK, ∀ W' : WX, Takes X W' → (∀ cls d σ' H', E cls d H' → W' cls d σ' H') → PE X e (fun σZ HZ Q => σZ[0]? = some (some (.ref f)) ∧ HZ c' = some (CodeO c' q) ∧ tl E HZ Q))
    (hn : X.N.length = n := by rfl) : PE X e (tAct n W f c' q tl) := by
  subst hn
  refine ⟨fun pins s σ H Q I h => ?_⟩
  obtain ⟨E, h1, h2, h3, h4⟩ := h
  exact (act E _ (takes_len tk) h1).run pins s σ H Q I ⟨h2, h3, h4⟩
theorem len5 {σ : L2.St} (h : σ.length = 5) : ∃ a b c d e, σ = [a, b, c, d, e] := by
  match σ, h with
  | [a, b, c, d, e], _ => exact ⟨a, b, c, d, e, rfl⟩
end
theorem hu1 {P : Addr} {q : Str} : ∀ p ∈ [(P, q)], p.1 = P → p.2 = q := fun p hp _ => by
  cases hp with
  | head => rfl
  | tail _ h => cases h
theorem hu2a {P P2 : Addr} {q q2 : Str} (ne : P ≠ P2) : ∀ p ∈ [(P, q), (P2, q2)], p.1 = P → p.2 = q := fun p hp e => by
  cases hp with
  | head => rfl
  | tail _ h =>
    cases h with
    | head => exact absurd e.symm ne
    | tail _ h => cases h
theorem hu2b {P P2 : Addr} {q q2 : Str} (ne : P ≠ P2) : ∀ p ∈ [(P, q), (P2, q2)], p.1 = P2 → p.2 = q2 := fun p hp e => by
  cases hp with
  | head => exact absurd e ne
  | tail _ h =>
    cases h with
    | head => rfl
    | tail _ h => cases h
/-! ### what is kept while tables grow -/
theorem tabs_same {T : List (Addr × Str)} {H H' : Hp} (t : Tabs T H) (s : Same H H') : Tabs T H' := t.ext s
theorem tabs_but {T : List (Addr × Str)} {H H' : Hp} {p : Addr} {xs : List V} (t : Tabs T H) (hp : H p = some (.lst xs)) (s : But p H H') : Tabs T H' := fun q hq => by
  obtain ⟨ps, h1, h2, h3⟩ := t q hq
  refine ⟨ps, s _ _ (fun z => ?_) h1, h2, fun pos cv hc => ?_⟩
  · rw [z, hp] at h1
    cases h1
  · obtain ⟨c, e1, e2⟩ := h3 pos cv hc
    refine ⟨c, e1, s _ _ (fun z => ?_) e2⟩
    rw [z, hp] at e2
    unfold CodeO at e2
    cases e2
theorem extN_same {H H' : Hp} (s : Same H H') : ExtN H H' := fun b o e _ => s b o e
def ButN (p : Addr) (H H' : Hp) : Prop := ∀ b o, b ≠ p → H b = some o → (∀ ps, o ≠ .tbl ps) → H' b = some o
theorem ButN.refl (p : Addr) (H : Hp) : ButN p H H := fun _ _ _ e _ => e
theorem ButN.of {p : Addr} {H H' : Hp} (s : But p H H') : ButN p H H' := fun b o n e _ => s b o n e
theorem ButN.ext {p : Addr} {H H' : Hp} (s : ExtN H H') : ButN p H H' := fun b o _ e n => s b o e n
theorem ButN.trans {p : Addr} {H H1 H2 : Hp} (s : ButN p H H1) (t : ButN p H1 H2) : ButN p H H2 := fun b o n e z => t b o n (s b o n e z) z
theorem ButN.same {p : Addr} {H H1 H2 : Hp} (s : ButN p H H1) (t : Same H1 H2) : ButN p H H2 := fun b o n e z => t b o (s b o n e z)
theorem ButN.tup {p t : Addr} {H H' : Hp} {xs : List V} (s : ButN p H H') (n : t ≠ p) (h : H t = some (.tup xs)) : H' t = some (.tup xs) := s _ _ n h (fun _ z => by cases z)
theorem ButN.lst {p t : Addr} {H H' : Hp} {xs : List V} (s : ButN p H H') (n : t ≠ p) (h : H t = some (.lst xs)) : H' t = some (.lst xs) := s _ _ n h (fun _ z => by cases z)
theorem extN_tup {t : Addr} {H H' : Hp} {xs : List V} (s : ExtN H H') (h : H t = some (.tup xs)) : H' t = some (.tup xs) := s _ _ h (fun _ z => by cases z)
theorem extN_lst {t : Addr} {H H' : Hp} {xs : List V} (s : ExtN H H') (h : H t = some (.lst xs)) : H' t = some (.lst xs) := s _ _ h (fun _ z => by cases z)
theorem SqL_butN {K : PySem.W.Frag} {H H' : Hp} {a p : Addr} {xs : List V} (h : SqL K H a xs) (np : H p = none) (s : ButN p H H') : SqL K H' a xs := by
  rcases h with (h | ⟨o, h⟩) | h
  · exact .inl (.inl (s _ _ (ne_of_none h np) h (fun _ z => by cases z)))
  · exact .inl (.inr ⟨o, s _ _ (ne_of_none h np) h (fun _ z => by cases z)⟩)
  · exact .inr h
theorem SqL_extN {K : PySem.W.Frag} {H H' : Hp} {a : Addr} {xs : List V} (h : SqL K H a xs) (s : ExtN H H') : SqL K H' a xs := by
  rcases h with (h | ⟨o, h⟩) | h
  · exact .inl (.inl (s _ _ h (fun _ z => by cases z)))
  · exact .inl (.inr ⟨o, s _ _ h (fun _ z => by cases z)⟩)
  · exact .inr h
theorem SqT_extN {K : PySem.W.Frag} {H H' : Hp} {a : Addr} {xs : List V} (h : SqT K H a xs) (s : ExtN H H') : SqT K H' a xs := by
  rcases h with (h | ⟨o, h⟩) | h
  · exact .inl (.inl (s _ _ h (fun _ z => by cases z)))
  · exact .inl (.inr ⟨o, s _ _ h (fun _ z => by cases z)⟩)
  · exact .inr h
end Ef
namespace Ef
open PySem PySem.Spec PyProof.Rows L2
/-! ### data with empty dicts in it, shown -/
mutual
inductive Dz (K : PySem.W.Frag) (H : Hp) : V → PyData → Prop
  | non : Dz K H .non .none
  | bl (b : Bool) : Dz K H (.bl b) (.bool b)
  | int (i : Int) : Dz K H (.int i) (.int i)
  | str (x : Str) : Dz K H (.str x) (.str x)
  | dic {p : Addr} : H p = some (.dK []) → Dz K H (.ref p) (.dict [])
  | tup {a : Addr} {xs : List V} {ds : List PyData} : SqT K H a xs → DzAll K H xs ds → Dz K H (.ref a) (.tuple ds)
  | lst {a : Addr} {xs : List V} {ds : List PyData} : SqL K H a xs → a ≠ sysModules → DzAll K H xs ds → Dz K H (.ref a) (.list ds)
inductive DzAll (K : PySem.W.Frag) (H : Hp) : List V → List PyData → Prop
  | nil : DzAll K H [] []
  | cons {v : V} {vs : List V} {d : PyData} {ds : List PyData} : Dz K H v d → DzAll K H vs ds → DzAll K H (v :: vs) (d :: ds)
end
section
variable {K : PySem.W.Frag} {H H' : Hp}
mutual
theorem Dz.mono (e : ∀ b o, H b = some o → (∀ ps, o ≠ .tbl ps) → H' b = some o) : ∀ {v : V} {d : PyData}, Dz K H v d → Dz K H' v d
  | _, _, .non => .non
  | _, _, .bl b => .bl b
  | _, _, .int i => .int i
  | _, _, .str x => .str x
  | _, _, .dic h => .dic (e _ _ h (fun _ z => by cases z))
  | _, _, .tup h a => .tup (by
      rcases h with (h | ⟨o, h⟩) | h
      · exact .inl (.inl (e _ _ h (fun _ z => by cases z)))
      · exact .inl (.inr ⟨o, e _ _ h (fun _ z => by cases z)⟩)
      · exact .inr h) (DzAll.mono e a)
  | _, _, .lst h n a => .lst (by
      rcases h with (h | ⟨o, h⟩) | h
      · exact .inl (.inl (e _ _ h (fun _ z => by cases z)))
      · exact .inl (.inr ⟨o, e _ _ h (fun _ z => by cases z)⟩)
      · exact .inr h) n (DzAll.mono e a)
theorem DzAll.mono (e : ∀ b o, H b = some o → (∀ ps, o ≠ .tbl ps) → H' b = some o) : ∀ {vs : List V} {ds : List PyData}, DzAll K H vs ds → DzAll K H' vs ds
  | _, _, .nil => .nil
  | _, _, .cons a b => .cons (Dz.mono e a) (DzAll.mono e b)
end
end
section
variable {X : Cx} {pins : List (Addr × Obj)} {σ : L2.St} {H : Hp} {s : Shared}
theorem dz_app {a : Addr} {xs ys : List Addr} (h1 : a ∉ xs) (h2 : a ∉ ys) : a ∉ xs ++ ys := fun z => (List.mem_append.mp z).elim h1 h2
mutual
theorem Dz.reads (I : Inv X pins σ H s) : ∀ (d : PyData) (v : V) (u : Value), Dz X.K H v d → RelV v u → ∃ as, Reads s.heap u d as ∧ sysModules ∉ as
  | .none, _, _, h, r => by
    cases h
    cases r
    exact ⟨_, Reads.none, List.not_mem_nil⟩
  | .bool b, _, _, h, r => by
    cases h
    cases r
    exact ⟨_, Reads.bool b, List.not_mem_nil⟩
  | .int i, _, _, h, r => by
    cases h
    obtain ⟨t, rfl⟩ := r
    exact ⟨_, Reads.int i t, List.not_mem_nil⟩
  | .str x, _, _, h, r => by
    cases h
    obtain ⟨t, rfl⟩ := r
    exact ⟨_, Reads.str x t, List.not_mem_nil⟩
  | .list ds, _, _, h, r => by
    cases h with
    | lst hs n ha =>
      cases r
      obtain ⟨its, rv, ⟨o, nn, ho, hc, _, hd⟩, _⟩ := I.list hs
      obtain ⟨as, hr, hn⟩ := Dz.readsAll I ds _ its ha rv
      refine ⟨_, Reads.list ho hc hd hr, fun z => ?_⟩
      rcases List.mem_cons.mp z with e | e
      · exact n e.symm
      · exact hn e
  | .tuple ds, _, _, h, r => by
    cases h with
    | tup hs ha =>
      cases r
      obtain ⟨its, rv, ⟨o, ho, hc, n, hd⟩, _⟩ := I.tuple hs
      obtain ⟨as, hr, hn⟩ := Dz.readsAll I ds _ its ha rv
      exact ⟨_, Reads.tuple ho hc hd hr, hn⟩
  | .dict kvs, _, _, h, r => by
    cases h with
    | dic hp =>
      rename_i p
      cases r
      obtain ⟨_, hsys, vs, kv, o, es, ep, ho, hx, hd, hk, hpr, hn⟩ := dk_of I.hok hp
      have e1 : vs = [] := by
        cases kv
        rfl
      subst e1
      have e2 : es.toList = [] := by
        generalize es.toList = l at hpr ⊢
        cases hpr
        rfl
      have rd : Reads s.heap (.ref p) (.dict []) (p :: [] ++ []) := by
        refine .dict ho hx.1 hd ?_ ?_
        · rw [e2]
          exact .nil
        · rw [e2]
          exact .nil
      refine ⟨_, rd, fun z => ?_⟩
      have e3 : sysModules = p := by simpa using z
      rw [← e3] at hsys
      exact absurd hsys (by simp)
theorem Dz.readsAll (I : Inv X pins σ H s) : ∀ (ds : List PyData) (vs : List V) (us : List Value), DzAll X.K H vs ds → Vals vs us → ∃ as, ReadsAll s.heap us ds as ∧ sysModules ∉ as
  | [], _, _, h, r => by
    cases h
    cases r
    exact ⟨_, ReadsAll.nil, List.not_mem_nil⟩
  | d :: ds, _, _, h, r => by
    cases h with
    | cons h1 h2 =>
      cases r with
      | cons r1 r2 =>
        obtain ⟨as, q1, n1⟩ := Dz.reads I d _ _ h1 r1
        obtain ⟨bs, q2, n2⟩ := Dz.readsAll I ds _ _ h2 r2
        exact ⟨_, ReadsAll.cons q1 q2, dz_app n1 n2⟩
end
end
/-- what may be shown: plain data, or data with empty dicts in it -/
def ShowV (K : PySem.W.Frag) (H : Hp) (v : V) (d : PyData) : Prop := (Dp K H v d ∧ Sh 60 80000 d) ∨ ∃ a, v = .ref a ∧ Dz K H v d ∧ d.showable = true ∧ d.depth ≤ 60 ∧ d.shown.length ≤ sizeLine
def rReprZ (K : PySem.W.Frag) : List V → Hp → VK → Prop := fun xs H Q => ∃ v d, xs = [v] ∧ ShowV K H v d ∧ Q (.str d.shown) H
section
variable {X : Cx} (K : PySem.W.Frag)
theorem call_reprZ (gd : X.A.guards = some []) (hu : X.A.units + 66 < cLine) (h : X.K = K := by rfl) : CallR X (.builtin "repr") (rReprZ K) := by
  subst h
  intro pins s σ H xs us Q I r h
  obtain ⟨v, d, rfl, hv, q⟩ := h
  rcases hv with ⟨hD, hS⟩ | ⟨a, rfl, hz, hsh, hdp, hsz⟩
  · exact call_reprD gd hu pins s σ H _ us Q I r ⟨v, d, rfl, hD, hS, q⟩
  · obtain ⟨u, rfl, ru⟩ := vals1 r
    obtain ⟨as, rd, hn⟩ := Dz.reads I d _ _ hz ru
    obtain rfl : u = Value.ref a := ru
    refine repr_of_reads' rd hsh (fun _ => hn) gd (by omega) (fun _ _ e => e) (fun h' u tk hk => ?_) hsz
    exact ⟨.str _, H, I.kept hk, ⟨u, rfl⟩, q⟩
end
/-! ### a list times an int, its address told -/
def rRepN : R2 := fun x y H Q => ∃ l k xs, x = .ref l ∧ y = .int k ∧ H l = some (.lst xs) ∧ 0 ≤ k ∧ k < 2 ^ 63 ∧ xs.length * k.toNat ≤ sizeLine ∧ ∀ p, H p = none → p ≠ sysModules → Q (.ref p) (upd H p (.lst (List.replicate k.toNat xs).flatten))
section
variable {X : Cx}
theorem rep_fold (its : List Value) : ∀ m : Nat, List.foldl (fun a b => a ++ b) #[] (List.replicate m its.toArray) = (List.replicate m its).flatten.toArray := fun m => by
  have z := foldl_rep its m []
  rwa [List.nil_append] at z
theorem op_repN : OpR X (binaryOp .Mult) rRepN := by
  rintro pins s σ H _ _ v u Q I rx ry ⟨l, k, xs, rfl, rfl, hl, k0, k1, size, q⟩
  obtain rfl : v = Value.ref l := rx
  obtain ⟨tk, rfl⟩ := ry
  obtain ⟨lx, its, n, rel, len, get⟩ := I.lstM hl
  have fits : its.toArray.size * k.toNat ≤ sizeLine := by
    rw [List.size_toArray, ← len]
    exact size
  have line : (sizeLine : Nat) ≤ (2 ^ 63 - 1) / 8 := by decide
  have a1 : ¬ (!Builtin.List.listFitsIndex k) = true := by
    rw [fitsIndex_both (by omega) k1]
    decide
  have a2 : ¬ its.toArray.size * k.toNat > (2 ^ 63 - 1) / 8 := Nat.not_lt.mpr (Nat.le_trans fits line)
  have a3 : ¬ Builtin.List.listTooLong (its.toArray.size * k.toNat) = true := by
    rw [notLongL fits]
    decide
  have whole : List.foldl (fun a b => a ++ b) #[] (List.replicate (if its.toArray.isEmpty = true then 0 else k.toNat) its.toArray) = (List.replicate k.toNat its).flatten.toArray := by
    rw [rep_fold]
    cases its <;> simp
  refine wpAny_binaryOp_repeat_ref (T := "list") (U := "int") (by decide) ⟨_, get, rfl⟩ (fun s' => typeIs_int s' k tk) noFill_list_mul F.fills_int_mul F.slot_int_rmul repeat_list F.slot_int_index.lookup (call_meets F.slot_int_rmul (typeIs_int s k tk) F.entry_int_rmul (F.args_int_rmul_2 _ _) (int___rmul___int_list k tk l its.toArray n) ⟨get, rfl, ⟨_, get, rfl⟩, ?_⟩)
  refine call_meets F.slot_list_mul ⟨_, get, rfl⟩ F.entry_list_mul (F.args_list_mul_2 _ _) (AutoListH.list___mul___list_int_3 l its.toArray n k tk a1 a2 a3) ⟨get, ?_⟩
  rw [whole]
  refine ⟨.ref _, _, I.lnew (t' := s.toks) (rel.rep k.toNat) ?_, rfl, q _ I.fresh (far_new I)⟩
  rw [PyProof.Rows.lm_len_rep_flat, Nat.mul_comm]
  exact size
end
end Ef
namespace Ef
open PySem PySem.Spec PyProof.Rows L2
def topS (i : Nat) : Stmt := PySem.Challenge.pw_evenfailover_k11_lists_that_are_refused.main.body.getD i (.Pass ⟨0, 0, 0, 0⟩)
abbrev sPlain : Stmt := topS 7
abbrev NPlain : List Str := ["thing"]
theorem scPlain : FnScope ["thing"] ["thing"] (defScope sPlain) := ⟨rfl, rfl, rfl, by decide +kernel, rfl, by decide +kernel, by decide +kernel⟩
abbrev sBin : Stmt := topS 8
abbrev NBin : List Str := ["n", "k", "result", "step"]
theorem scBin : FnScope ["n", "k", "result", "step"] ["n", "k"] (defScope sBin) := ⟨rfl, rfl, rfl, by decide +kernel, rfl, by decide +kernel, by decide +kernel⟩
abbrev sParts : Stmt := topS 9
abbrev NParts : List Str := ["n", "depth"]
theorem scParts : FnScope ["n", "depth"] ["n", "depth"] (defScope sParts) := ⟨rfl, rfl, rfl, by decide +kernel, rfl, by decide +kernel, by decide +kernel⟩
abbrev sPoss : Stmt := topS 10
abbrev NPoss : List Str := ["n", "depth", "count", "part"]
theorem scPoss : FnScope ["n", "depth", "count", "part"] ["n", "depth", "count"] (defScope sPoss) := ⟨rfl, rfl, rfl, by decide +kernel, rfl, by decide +kernel, by decide +kernel⟩
abbrev sChkP : Stmt := topS 11
abbrev NChkP : List Str := ["n", "depth", "count"]
theorem scChkP : FnScope ["n", "depth", "count"] ["n", "depth", "count"] (defScope sChkP) := ⟨rfl, rfl, rfl, by decide +kernel, rfl, by decide +kernel, by decide +kernel⟩
abbrev sChkN : Stmt := topS 12
abbrev NChkN : List Str := ["value", "many"]
theorem scChkN : FnScope ["value", "many"] ["value", "many"] (defScope sChkN) := ⟨rfl, rfl, rfl, by decide +kernel, rfl, by decide +kernel, by decide +kernel⟩
abbrev sWid : Stmt := topS 14
abbrev NWid : List Str := ["n", "depth", "count", "widths", "edges", "size"]
theorem scWid : FnScope ["n", "depth", "count", "widths", "edges", "size"] ["n", "depth", "count"] (defScope sWid) := ⟨rfl, rfl, rfl, by decide +kernel, rfl, by decide +kernel, by decide +kernel⟩
abbrev sFollow : Stmt := topS 15
abbrev NFollow : List Str := ["widths", "servers", "rest", "left", "taken", "width", "index", "server"]
theorem scFollow : FnScope ["widths", "servers", "rest", "left", "taken", "width", "index", "server"] ["widths", "servers", "rest"] (defScope sFollow) := ⟨rfl, rfl, rfl, by decide +kernel, rfl, by decide +kernel, by decide +kernel⟩
abbrev sPath : Stmt := topS 16
abbrev NPath : List Str := ["n", "depth", "count", "number"]
theorem scPath : FnScope ["n", "depth", "count", "number"] ["n", "depth", "count", "number"] (defScope sPath) := ⟨rfl, rfl, rfl, by decide +kernel, rfl, by decide +kernel, by decide +kernel⟩
abbrev sListAt : Stmt := topS 17
abbrev NListAt : List Str := ["n", "depth", "count", "number", "order", "rest"]
theorem scListAt : FnScope ["n", "depth", "count", "number", "order", "rest"] ["n", "depth", "count", "number"] (defScope sListAt) := ⟨rfl, rfl, rfl, by decide +kernel, rfl, by decide +kernel, by decide +kernel⟩
abbrev sPlaceAt : Stmt := topS 18
abbrev NPlaceAt : List Str := ["n", "depth", "count", "number", "order", "rest"]
theorem scPlaceAt : FnScope ["n", "depth", "count", "number", "order", "rest"] ["n", "depth", "count", "number"] (defScope sPlaceAt) := ⟨rfl, rfl, rfl, by decide +kernel, rfl, by decide +kernel, by decide +kernel⟩
abbrev sNumAt : Stmt := topS 19
abbrev NNumAt : List Str := ["n", "count", "members", "rest", "size", "widths", "taken", "number"]
theorem scNumAt : FnScope ["n", "count", "members", "rest", "size", "widths", "taken", "number"] ["n", "count", "members", "rest"] (defScope sNumAt) := ⟨rfl, rfl, rfl, by decide +kernel, rfl, by decide +kernel, by decide +kernel⟩
abbrev sNumW : Stmt := topS 20
abbrev NNumW : List Str := ["n", "count", "beginning", "first", "end", "moved", "left", "taken", "server", "width", "index", "low"]
theorem scNumW : FnScope ["n", "count", "beginning", "first", "end", "moved", "left", "taken", "server", "width", "index", "low"] ["n", "count", "beginning"] (defScope sNumW) := ⟨rfl, rfl, rfl, by decide +kernel, rfl, by decide +kernel, by decide +kernel⟩
abbrev sPot : Stmt := topS 22
abbrev NPot : List Str := ["_law_script", "_law_spot", "_law_cell", "_law_own"]
theorem scPot : FnScope ["_law_script", "_law_spot", "_law_cell", "_law_own"] ["_law_script", "_law_spot"] (defScope sPot) := ⟨rfl, rfl, rfl, by decide +kernel, rfl, by decide +kernel, by decide +kernel⟩
abbrev sTake : Stmt := topS 23
abbrev NTake : List Str := ["_law_pot_here", "_law_upto", "_law_digit", "_law_prime", "_law_drawn"]
theorem scTake : FnScope ["_law_pot_here", "_law_upto", "_law_digit", "_law_prime", "_law_drawn"] ["_law_pot_here", "_law_upto"] (defScope sTake) := ⟨rfl, rfl, rfl, by decide +kernel, rfl, by decide +kernel, by decide +kernel⟩
abbrev sOf : Stmt := topS 24
abbrev NOf : List Str := ["_law_pot_here", "_law_some"]
theorem scOf : FnScope ["_law_pot_here", "_law_some"] ["_law_pot_here", "_law_some"] (defScope sOf) := ⟨rfl, rfl, rfl, by decide +kernel, rfl, by decide +kernel, by decide +kernel⟩
abbrev sRows : Stmt := topS 25
abbrev NRows : List Str := ["_law_rows_here", "_law_last", "_law_at"]
theorem scRows : FnScope ["_law_rows_here", "_law_last", "_law_at"] [] (defScope sRows) := ⟨rfl, rfl, rfl, by decide +kernel, rfl, by decide +kernel, by decide +kernel⟩
abbrev sCommon : Stmt := topS 26
abbrev NCommon : List Str := ["_law_one", "_law_other"]
theorem scCommon : FnScope ["_law_one", "_law_other"] ["_law_one", "_law_other"] (defScope sCommon) := ⟨rfl, rfl, rfl, by decide +kernel, rfl, by decide +kernel, by decide +kernel⟩
abbrev sLeast : Stmt := topS 27
abbrev NLeast : List Str := ["_law_rows_here", "_law_wide", "_law_tall", "_law_found", "_law_level", "_law_edges"]
theorem scLeast : FnScope ["_law_rows_here", "_law_wide", "_law_tall", "_law_found", "_law_level", "_law_edges"] ["_law_rows_here", "_law_wide", "_law_tall"] (defScope sLeast) := ⟨rfl, rfl, rfl, by decide +kernel, rfl, by decide +kernel, by decide +kernel⟩
abbrev sCaught11 : Stmt := topS 28
abbrev NCaught11 : List Str := ["_law_ask", "_law_caught_here", "error", "_law_is_count", "_law_is_number"]
theorem scCaught11 : FnScope ["_law_ask", "_law_caught_here", "error", "_law_is_count", "_law_is_number"] ["_law_ask"] (defScope sCaught11) := ⟨rfl, rfl, rfl, by decide +kernel, rfl, by decide +kernel, by decide +kernel⟩
abbrev sCr11 : Stmt := topS 29
abbrev NCr11 : List Str := ["_law_wide", "_law_tall", "_law_total", "_law_odd", "_law_inside", "_law_at", "_law_told"]
theorem scCr11 : FnScope ["_law_wide", "_law_tall", "_law_total", "_law_odd", "_law_inside", "_law_at", "_law_told"] ["_law_wide", "_law_tall", "_law_total", "_law_odd"] (defScope sCr11) := ⟨rfl, rfl, rfl, by decide +kernel, rfl, by decide +kernel, by decide +kernel⟩
abbrev sNr11 : Stmt := topS 30
abbrev NNr11 : List Str := ["_law_wide", "_law_tall", "_law_total", "_law_odd", "_law_told"]
theorem scNr11 : FnScope ["_law_wide", "_law_tall", "_law_total", "_law_odd", "_law_told"] ["_law_wide", "_law_tall", "_law_total", "_law_odd"] (defScope sNr11) := ⟨rfl, rfl, rfl, by decide +kernel, rfl, by decide +kernel, by decide +kernel⟩
abbrev sLaw : Stmt := topS 31
abbrev NLaw : List Str := ["_law_script", "_law_rows_here", "_law_spot", "_law_pot_here", "_law_turn", "_law_wide", "_law_tall", "_law_least_here", "_law_total", "_law_few", "_law_odd", "_law_one"]
theorem scLaw : FnScope ["_law_script", "_law_rows_here", "_law_spot", "_law_pot_here", "_law_turn", "_law_wide", "_law_tall", "_law_least_here", "_law_total", "_law_few", "_law_odd", "_law_one"] ["_law_script"] (defScope sLaw) := ⟨rfl, rfl, rfl, by decide +kernel, rfl, by decide +kernel, by decide +kernel⟩
abbrev sNoN : Stmt := inClass (topS 2) 0
theorem scNoN : FnScope ["self", "value"] ["self", "value"] (defScope sNoN) := ⟨rfl, rfl, rfl, by decide +kernel, rfl, by decide +kernel, by decide +kernel⟩
abbrev sNotP : Stmt := inClass (topS 3) 0
theorem scNotP : FnScope ["self", "count"] ["self", "count"] (defScope sNotP) := ⟨rfl, rfl, rfl, by decide +kernel, rfl, by decide +kernel, by decide +kernel⟩
abbrev sTooM : Stmt := inClass (topS 4) 0
theorem scTooM : FnScope ["self", "count"] ["self", "count"] (defScope sTooM) := ⟨rfl, rfl, rfl, by decide +kernel, rfl, by decide +kernel, by decide +kernel⟩
abbrev sTooS : Stmt := inClass (topS 5) 0
theorem scTooS : FnScope ["self", "order"] ["self", "order"] (defScope sTooS) := ⟨rfl, rfl, rfl, by decide +kernel, rfl, by decide +kernel, by decide +kernel⟩
/-- what stands behind the top: each def, how it binds, and that the built-ins' names are free -/
structure Txt (K : PySem.W.Frag) (mg : Str → Option Value) where
  fPlain : Addr
  fdPlain : FuncData
  FPlain : Fun K "is_plain_int" "is_plain_int" sPlain fPlain fdPlain
  bPlain : Binds K fdPlain ["thing"] []
  gPlain : mg "is_plain_int" = some (.ref fPlain)
  fBin : Addr
  fdBin : FuncData
  FBin : Fun K "binomial" "binomial" sBin fBin fdBin
  bBin : Binds K fdBin ["n", "k"] []
  gBin : mg "binomial" = some (.ref fBin)
  fParts : Addr
  fdParts : FuncData
  FParts : Fun K "level_parts" "level_parts" sParts fParts fdParts
  bParts : Binds K fdParts ["n", "depth"] []
  gParts : mg "level_parts" = some (.ref fParts)
  fPoss : Addr
  fdPoss : FuncData
  FPoss : Fun K "is_possible" "is_possible" sPoss fPoss fdPoss
  bPoss : Binds K fdPoss ["n", "depth", "count"] []
  gPoss : mg "is_possible" = some (.ref fPoss)
  fChkP : Addr
  fdChkP : FuncData
  FChkP : Fun K "check_possible" "check_possible" sChkP fChkP fdChkP
  bChkP : Binds K fdChkP ["n", "depth", "count"] []
  gChkP : mg "check_possible" = some (.ref fChkP)
  fChkN : Addr
  fdChkN : FuncData
  FChkN : Fun K "check_number" "check_number" sChkN fChkN fdChkN
  bChkN : Binds K fdChkN ["value", "many"] []
  gChkN : mg "check_number" = some (.ref fChkN)
  fWid : Addr
  fdWid : FuncData
  FWid : Fun K "level_widths" "level_widths" sWid fWid fdWid
  bWid : Binds K fdWid ["n", "depth", "count"] []
  gWid : mg "level_widths" = some (.ref fWid)
  fFollow : Addr
  fdFollow : FuncData
  FFollow : Fun K "follow" "follow" sFollow fFollow fdFollow
  bFollow : Binds K fdFollow ["widths", "servers", "rest"] []
  gFollow : mg "follow" = some (.ref fFollow)
  fPath : Addr
  fdPath : FuncData
  FPath : Fun K "path" "path" sPath fPath fdPath
  bPath : Binds K fdPath ["n", "depth", "count", "number"] []
  gPath : mg "path" = some (.ref fPath)
  fListAt : Addr
  fdListAt : FuncData
  FListAt : Fun K "list_at" "list_at" sListAt fListAt fdListAt
  bListAt : Binds K fdListAt ["n", "depth", "count", "number"] []
  gListAt : mg "list_at" = some (.ref fListAt)
  fPlaceAt : Addr
  fdPlaceAt : FuncData
  FPlaceAt : Fun K "place_at" "place_at" sPlaceAt fPlaceAt fdPlaceAt
  bPlaceAt : Binds K fdPlaceAt ["n", "depth", "count", "number"] []
  gPlaceAt : mg "place_at" = some (.ref fPlaceAt)
  fNumAt : Addr
  fdNumAt : FuncData
  FNumAt : Fun K "number_at" "number_at" sNumAt fNumAt fdNumAt
  bNumAt : Binds K fdNumAt ["n", "count", "members", "rest"] []
  gNumAt : mg "number_at" = some (.ref fNumAt)
  fNumW : Addr
  fdNumW : FuncData
  FNumW : Fun K "numbers_with" "numbers_with" sNumW fNumW fdNumW
  bNumW : Binds K fdNumW ["n", "count", "beginning"] []
  gNumW : mg "numbers_with" = some (.ref fNumW)
  fPot : Addr
  fdPot : FuncData
  FPot : Fun K "_law_pot" "_law_pot" sPot fPot fdPot
  bPot : Binds K fdPot ["_law_script", "_law_spot"] []
  gPot : mg "_law_pot" = some (.ref fPot)
  fTake : Addr
  fdTake : FuncData
  FTake : Fun K "_law_take" "_law_take" sTake fTake fdTake
  bTake : Binds K fdTake ["_law_pot_here", "_law_upto"] []
  gTake : mg "_law_take" = some (.ref fTake)
  fOf : Addr
  fdOf : FuncData
  FOf : Fun K "_law_of" "_law_of" sOf fOf fdOf
  bOf : Binds K fdOf ["_law_pot_here", "_law_some"] []
  gOf : mg "_law_of" = some (.ref fOf)
  fRows : Addr
  fdRows : FuncData
  FRows : Fun K "_law_rows" "_law_rows" sRows fRows fdRows
  bRows : Binds K fdRows [] []
  gRows : mg "_law_rows" = some (.ref fRows)
  fCommon : Addr
  fdCommon : FuncData
  FCommon : Fun K "_law_common" "_law_common" sCommon fCommon fdCommon
  bCommon : Binds K fdCommon ["_law_one", "_law_other"] []
  gCommon : mg "_law_common" = some (.ref fCommon)
  fLeast : Addr
  fdLeast : FuncData
  FLeast : Fun K "_law_least" "_law_least" sLeast fLeast fdLeast
  bLeast : Binds K fdLeast ["_law_rows_here", "_law_wide", "_law_tall"] []
  gLeast : mg "_law_least" = some (.ref fLeast)
  fCaught11 : Addr
  fdCaught11 : FuncData
  FCaught11 : Fun K "_law_caught" "_law_caught" sCaught11 fCaught11 fdCaught11
  bCaught11 : Binds K fdCaught11 ["_law_ask"] []
  gCaught11 : mg "_law_caught" = some (.ref fCaught11)
  fCr11 : Addr
  fdCr11 : FuncData
  FCr11 : Fun K "_law_count_right" "_law_count_right" sCr11 fCr11 fdCr11
  bCr11 : Binds K fdCr11 ["_law_wide", "_law_tall", "_law_total", "_law_odd"] []
  gCr11 : mg "_law_count_right" = some (.ref fCr11)
  fNr11 : Addr
  fdNr11 : FuncData
  FNr11 : Fun K "_law_number_right" "_law_number_right" sNr11 fNr11 fdNr11
  bNr11 : Binds K fdNr11 ["_law_wide", "_law_tall", "_law_total", "_law_odd"] []
  gNr11 : mg "_law_number_right" = some (.ref fNr11)
  cBase : Addr
  gcBase : mg "FailoverError" = some (.ref cBase)
  btBase : BaseT K cBase
  cNoN : Addr
  gcNoN : mg "NoNumber" = some (.ref cNoN)
  fNoN : Addr
  fdNoN : FuncData
  FNoN : Fun K "__init__" "NoNumber.__init__" sNoN fNoN fdNoN
  bNoN : Binds K fdNoN ["self", "value"] []
  eNoN : ErrT K cNoN fNoN "value" cBase
  cNotP : Addr
  gcNotP : mg "NotPossible" = some (.ref cNotP)
  fNotP : Addr
  fdNotP : FuncData
  FNotP : Fun K "__init__" "NotPossible.__init__" sNotP fNotP fdNotP
  bNotP : Binds K fdNotP ["self", "count"] []
  eNotP : ErrT K cNotP fNotP "count" cBase
  cTooM : Addr
  gcTooM : mg "TooMany" = some (.ref cTooM)
  fTooM : Addr
  fdTooM : FuncData
  FTooM : Fun K "__init__" "TooMany.__init__" sTooM fTooM fdTooM
  bTooM : Binds K fdTooM ["self", "count"] []
  eTooM : ErrT K cTooM fTooM "count" cBase
  cTooS : Addr
  gcTooS : mg "TooShort" = some (.ref cTooS)
  fTooS : Addr
  fdTooS : FuncData
  FTooS : Fun K "__init__" "TooShort.__init__" sTooS fTooS fdTooS
  bTooS : Binds K fdTooS ["self", "order"] []
  eTooS : ErrT K cTooS fTooS "order" cBase
  kA_NotP : PySem.W.kitAny K (.ref cNotP) [.ref cTooM, .ref cTooS] = some false
  kV_NotP : PySem.W.kitOne K (.ref cNotP) (.type "ValueError") = some true
  kP_NotP : PySem.W.kitOne K (.ref cNotP) (.ref cNotP) = some true
  kN_NotP : PySem.W.kitOne K (.ref cNotP) (.ref cNoN) = some false
  kA_NoN : PySem.W.kitAny K (.ref cNoN) [.ref cTooM, .ref cTooS] = some false
  kV_NoN : PySem.W.kitOne K (.ref cNoN) (.type "ValueError") = some true
  kP_NoN : PySem.W.kitOne K (.ref cNoN) (.ref cNotP) = some false
  kN_NoN : PySem.W.kitOne K (.ref cNoN) (.ref cNoN) = some true
  n_ValueError : mg "ValueError" = none
  n_abs : mg "abs" = none
  n_all : mg "all" = none
  n_bool : mg "bool" = none
  n_int : mg "int" = none
  n_isinstance : mg "isinstance" = none
  n_len : mg "len" = none
  n_list : mg "list" = none
  n_max : mg "max" = none
  n_min : mg "min" = none
  n_range : mg "range" = none
  n_repr : mg "repr" = none
  n_reversed : mg "reversed" = none
  n_set : mg "set" = none
  n_sorted : mg "sorted" = none
  n_str : mg "str" = none
  n_tuple : mg "tuple" = none
  n_zip : mg "zip" = none
  ccCr11 : Addr
  ppCr11 : Addr
  coCr11 : CodeOf K fCr11 ccCr11
  ccNr11 : Addr
  ppNr11 : Addr
  coNr11 : CodeOf K fNr11 ccNr11
  ccLaw : Addr
  ppLaw : Addr
structure TBs {K : PySem.W.Frag} {mg : Str → Option Value} (T : Txt K mg) (base : Heap) : Prop where
  tbCr11 : LamX.TabB base mg T.ccCr11 T.ppCr11
  tbNr11 : LamX.TabB base mg T.ccNr11 T.ppNr11
  tbLaw : LamX.TabB base mg T.ccLaw T.ppLaw
  neCr11_Nr11 : T.ppCr11 ≠ T.ppNr11
  neCr11_Law : T.ppCr11 ≠ T.ppLaw
  neNr11_Law : T.ppNr11 ≠ T.ppLaw
def tabsOf {K : PySem.W.Frag} {mg : Str → Option Value} (T : Txt K mg) : List (Addr × Str) := [(T.ppCr11, ("_law_count_right" : Str) ++ ".<locals>." ++ "<lambda>"), (T.ppNr11, ("_law_number_right" : Str) ++ ".<locals>." ++ "<lambda>"), (T.ppLaw, ("law" : Str) ++ ".<locals>." ++ "<lambda>")]
/-! ### is_plain_int -/
def tyNames : List String := ["NoneType", "bool", "int", "str", "list", "tuple", "dict"]
def spPlain (K : PySem.W.Frag) : Sp := fun vs H Q _ => ∃ (v : V) (t : String), vs = [v] ∧ TyX K H v (.type t) ∧ t ∈ tyNames ∧ Q (.bl (t == "int")) H
theorem ty_cases {t : String} (h : t ∈ tyNames) : t = "NoneType" ∨ t = "bool" ∨ t = "int" ∨ t = "str" ∨ t = "list" ∨ t = "tuple" ∨ t = "dict" := by
  unfold tyNames at h
  simp only [List.mem_cons, List.not_mem_nil, or_false] at h
  exact h
theorem kit_int {K : PySem.W.Frag} {t : String} (h : t ∈ tyNames) : PySem.W.kitOne K (.type t) (.type "int") = some (t == "int" || t == "bool") := by
  rcases ty_cases h with rfl | rfl | rfl | rfl | rfl | rfl | rfl <;> exact kit_ty (by decide +kernel)
theorem kit_bool {K : PySem.W.Frag} {t : String} (h : t ∈ tyNames) : PySem.W.kitOne K (.type t) (.type "bool") = some (t == "bool") := by
  rcases ty_cases h with rfl | rfl | rfl | rfl | rfl | rfl | rfl <;> exact kit_ty (by decide +kernel)
theorem kit_tuple {K : PySem.W.Frag} {t : String} (h : t ∈ tyNames) : PySem.W.kitOne K (.type t) (.type "tuple") = some (t == "tuple") := by
  rcases ty_cases h with rfl | rfl | rfl | rfl | rfl | rfl | rfl <;> exact kit_ty (by decide +kernel)
section
variable {P : Program} {w : World} {K : PySem.W.Frag} {mg : Str → Option Value} {base : Heap}
theorem ok_plain (T : Txt K mg) {j : Nat} : FnOk P w K mg base CX0 (j + 1) T.fPlain T.fdPlain ["thing"] (spPlain K) := by
  refine T.FPlain.ok scPlain (fun vs H Q E h => ?_) (fun cdv A outer s H vs Q E hr h => ?_)
  · obtain ⟨v, t, rfl, _⟩ := h
    rfl
  · obtain ⟨v, t, rfl, ty, ht, q⟩ := h
    refine ⟨_, pss_one (ps_ret (pe_and (pe_callB call_isi (by rfl) T.n_isinstance (by decide +kernel) (pa_cons (pv 0) (pa_cons (pe_bltn (v := .ty "int") (by rfl) T.n_int (by decide +kernel) rfl) pa_nil)))
      (pe_one (pe_not (pe_callB call_isi (by rfl) T.n_isinstance (by decide +kernel) (pa_cons (pv 0) (pa_cons (pe_bltn (v := .ty "bool") (by rfl) T.n_bool (by decide +kernel) rfl) pa_nil))))))), ?_⟩
    refine ⟨v, rfl, v, .ty "int", _, _, _, rfl, .ty _, ty, kit_int ht, _, rfl, ?_⟩
    rcases ty_cases ht with rfl | rfl | rfl | rfl | rfl | rfl | rfl
    · exact iteF q
    · exact iteT ⟨v, rfl, v, .ty "bool", _, _, _, rfl, .ty _, ty, kit_bool ht, _, rfl, q⟩
    · exact iteT ⟨v, rfl, v, .ty "bool", _, _, _, rfl, .ty _, ty, kit_bool ht, _, rfl, q⟩
    · exact iteF q
    · exact iteF q
    · exact iteF q
    · exact iteF q
end
/-! ### binomial -/
def spBin : Sp := fun vs H Q _ => ∃ n k : Int, vs = [.int n, .int k] ∧ n ≤ 60 ∧ Q (.int (binZ n k)) H
section
variable {P : Program} {w : World} {K : PySem.W.Frag} {mg : Str → Option Value} {base : Heap}
theorem ok_bin (T : Txt K mg) {j : Nat} : FnOk P w K mg base CX0 (j + 1) T.fBin T.fdBin ["n", "k"] spBin := by
  refine T.FBin.ok scBin (fun vs H Q E h => ?_) (fun cdv A outer s H vs Q E hr h => ?_)
  · obtain ⟨n, k, rfl, _⟩ := h
    rfl
  · obtain ⟨n, k, rfl, hn, q⟩ := h
    refine ⟨_, pss_cons (ps_if (PW.pt (pw_or (pt_cmpR op_lt (pv 1) pe_int (nomark _)) (pw_or1 (pt_cmpR op_gt (pv 1) (pv 0) (nomark _))))) (pss_one (ps_ret pe_int)) pss_nil)
      (pss_cons (ps_set (i := 2) scBin.nd rfl (.inl rfl) pe_int)
      (pss_cons (ps_for PassesOwn.never rfl (pi_range2 (by rfl) T.n_range (pa_cons pe_int (pa_cons (pe_op op_add (pe_callB (call_min2 rfl) (by rfl) T.n_min (by decide +kernel) (pa_cons (pv 1) (pa_cons (pe_op op_sub (pv 0) (pv 1)) pa_nil))) pe_int) pa_nil)))
          (pg_name (i := 3) scBin.nd rfl (.inl rfl))
          (pss_one (ps_set (i := 2) scBin.nd rfl (.inl rfl) (pe_op op_fdiv (pe_op op_mul (pv 2) (pe_op op_sub (pe_op op_add (pv 0) pe_int) (pv 3))) (pv 3)))))
      (pss_one (ps_ret (pv 2))))), ?_⟩
    refine ⟨_, rfl, _, _, rfl, rfl, _, rfl, ite2 (fun h1 => ?_) (fun h1 => ?_)⟩
    · have e : binZ n k = 0 := if_pos (.inl (of_decide_eq_true h1))
      rw [e] at q
      exact iteT q
    · refine ⟨_, rfl, _, rfl, _, _, rfl, rfl, _, rfl, ite2 (fun h2 => ?_) (fun h2 => ?_)⟩
      · have e : binZ n k = 0 := if_pos (.inr (of_decide_eq_true h2))
        rw [e] at q
        exact q
      · have k0 : 0 ≤ k := by
          have := of_decide_eq_false (Bool.eq_false_iff.mpr h1)
          omega
        have kn : k ≤ n := by
          have := of_decide_eq_false (Bool.eq_false_iff.mpr h2)
          omega
        obtain ⟨a, rfl⟩ := Int.eq_ofNat_of_zero_le k0
        obtain ⟨b, rfl⟩ := Int.eq_ofNat_of_zero_le (Int.le_trans k0 kn)
        have hab : a ≤ b := by omega
        have hb : b ≤ 60 := by omega
        have em : (if (b : Int) - (a : Int) < (a : Int) then (b : Int) - (a : Int) else (a : Int)) = ((min a (b - a) : Nat) : Int) := by
          by_cases c : b - a < a
          · rw [if_pos (by omega), Nat.min_eq_right (by omega)]
            omega
          · rw [if_neg (by omega), Nat.min_eq_left (by omega)]
        refine ⟨_, rfl, _, rfl, _, rfl, _, _, rfl, rfl, _, _, rfl, _, _, rfl, rfl, ?_⟩
        rw [em]
        refine ⟨_, _, rfl, ⟨by decide, by decide, by omega, by omega⟩, ?_⟩
        refine for_range (lo := 1) (n := (((min a (b - a) : Nat) : Int) + 1 - 1).toNat) (fun i σ H2 => ∃ v, σ = [some (.int b), some (.int a), some (.int (C b i)), v] ∧ H2 = H) ?_ ?_ ?_
        · exact ⟨none, by rw [C_zero]; rfl, rfl⟩
        · rintro i σ H2 hi ⟨v, rfl, rfl⟩
          have hib : i < b := by omega
          have c60 := C_60 b i hb
          refine ⟨_, rfl, _, rfl, _, _, rfl, rfl, _, rfl, _, _, rfl, rfl, _, _, rfl, rfl, .inl ⟨by omega, by omega⟩, _, rfl, _, _, rfl, rfl, ⟨by omega, by omega⟩, ?_⟩
          refine ⟨some (.int (1 + (i : Int))), ?_, rfl⟩
          show [some (V.int (b : Int)), some (V.int (a : Int)), some (V.int (((C b i : Int) * ((b : Int) + 1 - (1 + (i : Int)))) / (1 + (i : Int)))), some (V.int (1 + (i : Int)))] = _
          rw [C_div b i hib]
        · rintro σ H2 ⟨v, rfl, rfl⟩
          refine ⟨_, rfl, ?_⟩
          have e1 : (((min a (b - a) : Nat) : Int) + 1 - 1).toNat = min a (b - a) := by omega
          have e2 : binZ (b : Int) (a : Int) = ((C b (((min a (b - a) : Nat) : Int) + 1 - 1).toNat : Nat) : Int) := by
            rw [e1, C_min b a hab]
            exact binZ_nat b a
          rw [e2] at q
          exact q
end
/-! ### tuples and lists of servers -/
def setV (ms : List Nat) : List V := ms.map fun (m : Nat) => V.int (m : Int)
theorem setV_app (a b : List Nat) : setV (a ++ b) = setV a ++ setV b := List.map_append
theorem setV_at {ms : List Nat} {i m : Nat} (h : ms[i]? = some m) : (setV ms)[i]? = some (V.int (m : Int)) := by
  unfold setV
  rw [List.getElem?_map, h]
  rfl
theorem setV_len (ms : List Nat) : (setV ms).length = ms.length := List.length_map _
theorem setV_range (n : Nat) : rgV 0 (n : Int) = setV (List.range' 0 n) := by
  unfold setV
  have e : ((n : Int) - 0).toNat = n := by omega
  unfold rgV
  rw [e, List.range_eq_range']
  refine List.map_congr_left fun i _ => ?_
  rw [Int.zero_add]
theorem seq_at {k n : Nat} (h : k < n) : seqIndex? (k : Int) n = some k := by
  unfold seqIndex?
  simp only [show ¬ ((k : Int) < 0) by omega, if_false]
  rw [if_pos]
  · rw [Int.toNat_natCast]
  · rw [Bool.and_eq_true]
    exact ⟨decide_eq_true (by omega), decide_eq_true (by omega)⟩
theorem SqL.is {K : PySem.W.Frag} {H : Hp} {a : Addr} {xs ys : List V} (h : SqL K H a xs) (e : xs = ys) : SqL K H a ys := e ▸ h
theorem setV_erase : ∀ (l : List Nat) (k : Nat), (setV l).eraseIdx k = setV (l.eraseIdx k)
  | [], _ => rfl
  | _ :: _, 0 => rfl
  | a :: r, k + 1 => congrArg (V.int (a : Int) :: ·) (setV_erase r k)
theorem setV_ints (ms : List Nat) : setV ms = (ms.map fun (m : Nat) => (m : Int)).map V.int := by
  unfold setV
  rw [List.map_map]
  rfl
theorem ints_back {ns : List Int} {ms : List Nat} (h : ns.Perm (ms.map fun (m : Nat) => (m : Int))) : ∃ ks : List Nat, ns = (ks.map fun (m : Nat) => (m : Int)) ∧ ks.Perm ms := by
  have e : ∀ x ∈ ns, ((x.toNat : Nat) : Int) = x := fun x hx => by
    obtain ⟨m, _, rfl⟩ := List.mem_map.mp (h.mem_iff.mp hx)
    simp
  refine ⟨ns.map Int.toNat, ?_, ?_⟩
  · rw [List.map_map]
    conv => lhs; rw [← List.map_id ns]
    exact List.map_congr_left fun x hx => (e x hx).symm
  · have h2 := h.map Int.toNat
    rw [List.map_map] at h2
    have e2 : (ms.map (Int.toNat ∘ fun (m : Nat) => (m : Int))) = ms := by
      conv => rhs; rw [← List.map_id ms]
      exact List.map_congr_left fun x _ => by simp
    rw [e2] at h2
    exact h2
theorem le_back {ks : List Nat} (h : (ks.map fun (m : Nat) => (m : Int)).Pairwise (· ≤ ·)) : ks.Pairwise (· ≤ ·) := by
  rw [List.pairwise_map] at h
  exact h.imp fun z => by omega
theorem lt_of_le {ks : List Nat} (h : ks.Pairwise (· ≤ ·)) (hn : ks.Nodup) : Asc ks := (h.and hn).imp fun ⟨a, b⟩ => by omega
theorem inV_ints (x : Int) : ∀ ns : List Int, inV (V.int x) (ns.map V.int) = decide (x ∈ ns)
  | [] => rfl
  | y :: r => by
    show ((y == x) || inV (V.int x) (r.map V.int)) = _
    rw [inV_ints x r]
    by_cases h : y = x
    · subst h
      rw [beq_self_eq_true, decide_eq_true List.mem_cons_self]
      rfl
    · rw [show (y == x) = false from beq_eq_false_iff_ne.mpr h, Bool.false_or]
      by_cases g : x ∈ r
      · rw [decide_eq_true g, decide_eq_true (List.mem_cons_of_mem _ g)]
      · rw [decide_eq_false g, decide_eq_false fun z => ?_]
        rcases List.mem_cons.mp z with z | z
        · exact h z.symm
        · exact g z
theorem flat_ints : ∀ ns : List Int, (ns.map V.int).all flatV = true
  | [] => rfl
  | _ :: r => flat_ints r
theorem setV_flat (ms : List Nat) : (setV ms).all flatV = true := by
  rw [setV_ints]
  exact flat_ints _
theorem inV_setV (x : Nat) (ms : List Nat) : inV (.int (x : Int)) (setV ms) = decide (x ∈ ms) := by
  rw [setV_ints, inV_ints]
  refine decide_eq_decide.mpr ⟨fun h => ?_, fun h => List.mem_map.mpr ⟨x, h, rfl⟩⟩
  obtain ⟨y, hy, e⟩ := List.mem_map.mp h
  have : y = x := by omega
  rw [← this]
  exact hy
theorem setV_mem {ms : List Nat} {v : V} (h : v ∈ setV ms) : ∃ m, m ∈ ms ∧ v = .int (m : Int) := by
  obtain ⟨m, hm, e⟩ := List.mem_map.mp h
  exact ⟨m, hm, e.symm⟩
theorem setV_get {ms : List Nat} {i : Nat} {v : V} (h : (setV ms)[i]? = some v) : ∃ m, ms[i]? = some m ∧ v = .int (m : Int) := by
  unfold setV at h
  rw [List.getElem?_map] at h
  cases e : ms[i]? with
  | none =>
    rw [e] at h
    cases h
  | some m =>
    rw [e] at h
    exact ⟨m, rfl, (Option.some.inj h).symm⟩
theorem range'_snoc (n : Nat) : List.range' 0 (n + 1) = List.range' 0 n ++ [n] := by
  rw [← List.range_eq_range', ← List.range_eq_range', List.range_succ]
theorem fr_step (f : Nat → Bool) (n : Nat) : setV ((List.range' 0 (n + 1)).filter f) = setV ((List.range' 0 n).filter f) ++ if f n = true then [V.int (n : Int)] else [] := by
  rw [range'_snoc, List.filter_append, setV_app]
  congr 1
  cases h : f n with
  | true => rw [List.filter_cons_of_pos h]; rfl
  | false => rw [List.filter_cons_of_neg (by rw [h]; decide)]; rfl
/-- what an error of the class CN with the field f leaves behind -/
def Raised (f : Str) (CN : Addr) (v : V) (H : Hp) (E : XK) : Prop := ∀ H' d, Same H H' → H' d = some (.xd [(f, v)]) → H d = none → E (.ref CN) (some d) H'
theorem Raised.on {f : Str} {CN : Addr} {v : V} {H H1 : Hp} {E : XK} (s : Same H H1) (h : Raised f CN v H E) : Raised f CN v H1 E := fun H' d s2 e n => h H' d (s.trans s2) e (s.free n)
theorem cut_set (ms : List Nat) (lo hi : Option Int) : ∃ ks : List Nat, cutV (setV ms) lo hi = setV ks ∧ (∀ x ∈ ks, x ∈ ms) ∧ ks.length ≤ ms.length ∧ ks.Sublist ms := by
  unfold cutV setV
  rw [← List.map_drop, ← List.map_take]
  refine ⟨_, rfl, fun x hx => List.mem_of_mem_drop (List.mem_of_mem_take hx), ?_, (List.take_sublist _ _).trans (List.drop_sublist _ _)⟩
  rw [List.length_take, List.length_drop]
  omega
def natOf : V → Nat
  | .int i => i.toNat
  | _ => 0
theorem perm_setV {ys : List V} {ms : List Nat} (h : ys.Perm (setV ms)) : ∃ ks : List Nat, ys = setV ks ∧ ks.Perm ms := by
  have e : ∀ y ∈ ys, V.int ((natOf y : Nat) : Int) = y := fun y hy => by
    obtain ⟨m, _, rfl⟩ := setV_mem (h.mem_iff.mp hy)
    show V.int (((m : Int).toNat : Nat) : Int) = _
    rw [Int.toNat_natCast]
  refine ⟨ys.map natOf, ?_, ?_⟩
  · unfold setV
    rw [List.map_map]
    conv => lhs; rw [← List.map_id ys]
    exact List.map_congr_left fun y hy => (e y hy).symm
  · have h2 := h.map natOf
    unfold setV at h2
    rw [List.map_map] at h2
    have e2 : (ms.map (natOf ∘ fun (m : Nat) => V.int (m : Int))) = ms := by
      conv => rhs; rw [← List.map_id ms]
      refine List.map_congr_left fun x _ => ?_
      show (x : Int).toNat = x
      rw [Int.toNat_natCast]
    rw [e2] at h2
    exact h2
theorem dp_set {K : PySem.W.Frag} {H : Hp} : ∀ ms : List Nat, DpAll K H (setV ms) (natD ms)
  | [] => .nil
  | m :: r => .cons (.int (m : Int)) (dp_set r)
theorem but_free {p q : Addr} {H H' : Hp} (s : But p H H') (h : H' q = none) (n : q ≠ p) : H q = none := by
  cases e : H q with
  | none => rfl
  | some o =>
    rw [s _ _ n e] at h
    cases h
theorem but_new {p q : Addr} {H H1 : Hp} {o : HO} (s : But p H H1) (h : H q = none) : But p H (L2.upd H1 q o) := fun b x n e => by
  rw [upd_ne (ne_of_none e h)]
  exact s b x n e
theorem erase_perm {α : Type} : ∀ (l : List α) (k : Nat) (x : α), l[k]? = some x → (x :: l.eraseIdx k).Perm l
  | [], _, _, h => by cases h
  | a :: r, 0, x, h => by
    obtain rfl : a = x := Option.some.inj h
    exact List.Perm.refl _
  | a :: r, k + 1, x, h => (List.Perm.swap a x _).trans ((erase_perm r k x h).cons a)
theorem same_hide {p : Addr} {H H' : Hp} (s : Same H H') (n : H p = none) : Same H (hide p H') := fun b o e => by
  rw [hide_ne (ne_of_none e n)]
  exact s b o e
theorem cut_take (fl : List Nat) (w : Nat) : cutV (setV fl) none (some (w : Int)) = setV (fl.take w) := by
  unfold cutV
  have e0 : HT.sIx (setV fl).length 0 none = 0 := rfl
  have e1 : HT.sIx (setV fl).length (setV fl).length (some (w : Int)) = min w fl.length := by
    rw [setV_len]
    exact HT.sIx_nat _ _ _
  rw [e0, e1, List.drop_zero, Nat.sub_zero]
  unfold setV
  rw [← List.map_take]
  congr 1
  rw [List.take_eq_take_iff]
  omega
theorem SqT_updL {K : PySem.W.Frag} {H : Hp} {a D : Addr} {xs ys : List V} {o : HO} (h : SqT K H a xs) (hD : H D = some (.lst ys)) : SqT K (upd H D o) a xs := by
  rcases h with (h | ⟨o, h⟩) | h
  · exact .inl (.inl (by rw [upd_ne (fun c => by rw [c, hD] at h; cases h)]; exact h))
  · exact .inl (.inr ⟨o, by rw [upd_ne (fun c => by rw [c, hD] at h; cases h)]; exact h⟩)
  · exact .inr h
/-- a pair of a tuple of servers and a number -/
def PairAt (H0 H : Hp) (u : Addr) (ms : List Nat) (r : Nat) : Prop := H0 u = none ∧ ∃ t, H0 t = none ∧ H u = some (.tup [.ref t, .int (r : Int)]) ∧ H t = some (.tup (setV ms))
theorem PairAt.back {H0 H1 H : Hp} {u : Addr} {ms : List Nat} {r : Nat} (s : Same H0 H1) (h : PairAt H1 H u ms r) : PairAt H0 H u ms r := by
  obtain ⟨a, t, b, c⟩ := h
  exact ⟨s.free a, t, s.free b, c⟩
theorem erase_setV : ∀ (l : List Nat) (k : Nat), (setV l).eraseIdx k = setV (l.eraseIdx k)
  | [], _ => rfl
  | _ :: _, 0 => rfl
  | a :: r, k + 1 => congrArg (V.int (a : Int) :: ·) (erase_setV r k)
/-! ### level_parts -/
def spParts : Sp := fun vs H Q _ => ∃ n d : Nat, vs = [.int n, .int d] ∧ n ≤ 60 ∧ d ≤ n ∧ ∀ p, H p = none → Q (.ref p) (upd H p (.lst (setV (partsV n d))))
theorem rg_parts {n d : Nat} (h : d ≤ n) : rgC (n : Int) (-1) d = setV (partsV n d) := by
  unfold rgC setV partsV
  rw [List.map_map]
  refine List.map_congr_left fun i hi => ?_
  have := List.mem_range.mp hi
  show V.int ((n : Int) + ((i : Nat) : Int) * (-1)) = V.int ((n - i : Nat) : Int)
  congr 1
  omega
section
variable {P : Program} {w : World} {K : PySem.W.Frag} {mg : Str → Option Value} {base : Heap}
theorem ok_parts (T : Txt K mg) {j : Nat} : FnOk P w K mg base CX0 (j + 1) T.fParts T.fdParts ["n", "depth"] spParts := by
  refine T.FParts.ok scParts (fun vs H Q E h => ?_) (fun cdv A outer s H vs Q E hr h => ?_)
  · obtain ⟨n, d, rfl, _⟩ := h
    rfl
  · obtain ⟨n, d, rfl, hn, hd, q⟩ := h
    refine ⟨_, pss_one (ps_ret (pe_listRgC rfl (by rfl) T.n_list (by rfl) T.n_range (pa_cons (pv 0) (pa_cons (pe_op op_sub (pv 0) (pv 1)) (pa_cons (pe_un un_neg pe_int) pa_nil))))), ?_⟩
    have e : ((n : Int) - ((n : Int) - (d : Int))).toNat = d := by omega
    have rc : RgC (n : Int) ((n : Int) - (d : Int)) (-1) d := by
      have := RgC.neg (i := (n : Int)) (j := (n : Int) - (d : Int)) (by omega) (by omega) (by omega) (by omega)
      rw [e] at this
      exact this
    refine ⟨_, rfl, _, rfl, _, rfl, _, _, rfl, rfl, _, rfl, (n : Int), (n : Int) - (d : Int), -1, d, rfl, rc, by omega, fun p np => ?_⟩
    rw [rg_parts hd]
    exact q p np
end
/-! ### counts and numbers of any value -/
theorem TyX.same {K : PySem.W.Frag} {H H' : Hp} {v : V} {t : Value} (e : Same H H') (h : TyX K H v t) : TyX K H' v t := by
  cases h with
  | base h =>
    cases h with
    | non => exact .base .non
    | bl x => exact .base (.bl x)
    | int i => exact .base (.int i)
    | str x => exact .base (.str x)
    | flt x => exact .base (.flt x)
    | lst z => exact .base (.lst (e _ _ z))
    | frz z => exact .base (.frz (e _ _ z))
    | tup z => exact .base (.tup (e _ _ z))
    | dK z => exact .base (.dK (e _ _ z))
    | dT z => exact .base (.dT (e _ _ z))
    | ins z a1 a2 a3 a4 a5 => exact .base (.ins (e _ _ z) a1 a2 a3 a4 a5)
  | byt b => exact .byt b
  | set z => exact .set (e _ _ z)
  | kList a b => exact .kList a b
  | kTuple a b => exact .kTuple a b
  | kDict a b => exact .kDict a b
  | fTuple z => exact .fTuple (e _ _ z)
  | fDict z => exact .fDict (e _ _ z)
def CountV (K : PySem.W.Frag) (H : Hp) (v : V) (o : Option Int) : Prop := (∃ c, o = some c ∧ v = .int c) ∨ (o = none ∧ ∃ t, t ∈ tyNames ∧ (t == "int") = false ∧ TyX K H v (.type t))
theorem CountV.ty {K : PySem.W.Frag} {H : Hp} {v : V} {o : Option Int} (h : CountV K H v o) : ∃ t, t ∈ tyNames ∧ (t == "int") = o.isSome ∧ TyX K H v (.type t) := by
  rcases h with ⟨c, rfl, rfl⟩ | ⟨rfl, t, h1, h2, h3⟩
  · exact ⟨"int", by decide, rfl, .base (.int c)⟩
  · exact ⟨t, h1, h2, h3⟩
def possB (L : Nat) : Option Int → Bool
  | some c => decide (0 < c) && decide (c % (L : Int) = 0)
  | none => false
theorem possB_some (L : Nat) (c : Int) : possB L (some c) = (decide (0 < c) && decide (c % (L : Int) = 0)) := rfl
theorem CountV.same {K : PySem.W.Frag} {H H' : Hp} {v : V} {o : Option Int} (e : Same H H') (h : CountV K H v o) : CountV K H' v o := by
  rcases h with h | ⟨h1, t, h2, h3, h4⟩
  · exact .inl h
  · exact .inr ⟨h1, t, h2, h3, TyX.same e h4⟩
theorem decV (x y : Int) : decide (V.int x = V.int y) = decide (x = y) := by
  by_cases h : x = y
  · rw [decide_eq_true h, decide_eq_true (congrArg V.int h)]
  · rw [decide_eq_false h, decide_eq_false fun z => h (V.int.inj z)]
theorem poss_no {n d c i : Nat} (hn : n ≤ 60) (h1 : 1 ≤ n) (hd : d ≤ n) (hi : i < d) (h : ¬ (n - i) ∣ c) : possB (leastL n d) (some (c : Int)) = false := by
  rw [possB_some, decide_eq_false (p := (c : Int) % (leastL n d : Int) = 0), Bool.and_false]
  intro z
  have z2 : c % leastL n d = 0 := by
    have : ((c % leastL n d : Nat) : Int) = 0 := by
      rw [Int.natCast_emod]
      exact z
    omega
  exact h ((least_parts h1 hn hd c).mp (Nat.dvd_of_mod_eq_zero z2) i hi)
theorem poss_yes {n d c : Nat} (hn : n ≤ 60) (h1 : 1 ≤ n) (hd : d ≤ n) (h0 : 0 < c) (h : ∀ i, i < d → (n - i) ∣ c) : possB (leastL n d) (some (c : Int)) = true := by
  rw [possB_some, decide_eq_true (p := 0 < (c : Int)) (by omega), Bool.true_and]
  refine decide_eq_true ?_
  rw [← Int.natCast_emod, Nat.mod_eq_zero_of_dvd ((least_parts h1 hn hd c).mpr h)]
  rfl
theorem poss_std {n d : Nat} {o : Option Int} (hn : n ≤ 60) (h1 : 1 ≤ n) (hd : d ≤ n) (h : possB (leastL n d) o = true) : ∃ c : Nat, o = some (c : Int) ∧ Std n d c := by
  cases o with
  | none => cases h
  | some x =>
    rw [possB_some, Bool.and_eq_true] at h
    have a := of_decide_eq_true h.1
    have b := of_decide_eq_true h.2
    obtain ⟨c, rfl⟩ := Int.eq_ofNat_of_zero_le (Int.le_of_lt a)
    refine ⟨c, rfl, hn, h1, hd, by omega, ?_⟩
    have b2 : ((c % leastL n d : Nat) : Int) = 0 := by
      rw [Int.natCast_emod]
      exact b
    exact Nat.dvd_of_mod_eq_zero (by omega)
theorem std_poss {n d c : Nat} (h : Std n d c) : possB (leastL n d) (some (c : Int)) = true := by
  have h0 := h.c0
  obtain ⟨q, hq⟩ := h.dv
  rw [possB_some, decide_eq_true (show (0 : Int) < (c : Int) by omega), Bool.true_and]
  refine decide_eq_true ?_
  rw [← Int.natCast_emod, hq, Nat.mul_mod_right]
  rfl
def numB (m : Nat) : Option Int → Bool
  | some c => decide (0 ≤ c) && decide (c < (m : Int))
  | none => false
theorem numB_some (m : Nat) (c : Int) : numB m (some c) = (decide (0 ≤ c) && decide (c < (m : Int))) := rfl
theorem num_lt {c : Nat} {m : Option Int} (h : numB c m = true) : ∃ k : Nat, m = some (k : Int) ∧ k < c := by
  cases m with
  | none => cases h
  | some x =>
    rw [numB_some, Bool.and_eq_true] at h
    have a := of_decide_eq_true h.1
    have b := of_decide_eq_true h.2
    obtain ⟨k, rfl⟩ := Int.eq_ofNat_of_zero_le a
    exact ⟨k, rfl, by omega⟩
theorem CountV.isInt {K : PySem.W.Frag} {H : Hp} {v : V} {c : Int} (h : CountV K H v (some c)) : v = .int c := by
  rcases h with ⟨x, e, rfl⟩ | ⟨e, _⟩
  · rw [← Option.some.inj e]
  · cases e
/-! ### is_possible -/
def spPoss (K : PySem.W.Frag) : Sp := fun vs H Q _ => ∃ (n d : Nat) (v : V) (o : Option Int), vs = [.int n, .int d, v] ∧ n ≤ 60 ∧ 1 ≤ n ∧ d ≤ n ∧ CountV K H v o ∧ ∀ H', Same H H' → Q (.bl (possB (leastL n d) o)) H'
section
variable {P : Program} {w : World} {K : PySem.W.Frag} {mg : Str → Option Value} {base : Heap}
theorem ok_poss (T : Txt K mg) {j : Nat} : FnOk P w K mg base CX0 (j + 4) T.fPoss T.fdPoss ["n", "depth", "count"] (spPoss K) := by
  refine T.FPoss.ok scPoss (fun vs H Q E h => ?_) (fun cdv A outer s H vs Q E hr h => ?_)
  · obtain ⟨n, d, v, o, rfl, _⟩ := h
    rfl
  · obtain ⟨n, d, v, o, rfl, hn, h1, hd, hv, q⟩ := h
    refine ⟨_, pss_cons (ps_if (PW.pt (pw_or (pt_not (pt_val (pe_call (ok_plain T) hr (by rfl) T.gPlain T.FPlain.kp T.bPlain .nil pass0 (pa_cons (pv 2) pa_nil)))) (pw_or (pt_cmpR op_le (pv 2) pe_int (nomark _)) (pw_or1 (pt_cmpR op_gt (pv 1) (pv 0) (nomark _)))))) (pss_one (ps_ret pe_bl)) pss_nil) (pss_cons (ps_for PassesOwn.never rfl (pi_list (pe_call (ok_parts T) hr (by rfl) T.gParts T.FParts.kp T.bParts .nil pass0 (pa_cons (pv 0) (pa_cons (pv 1) pa_nil)))) (pg_name (i := 3) scPoss.nd rfl (.inl rfl)) (pss_one (ps_if (pt_cmpR op_ne (pe_op op_mod (pv 2) (pv 3)) pe_int (nomark _)) (pss_one (ps_ret pe_bl)) pss_nil))) (pss_one (ps_ret pe_bl))), ?_⟩
    obtain ⟨t, ht, e, ty⟩ := hv.ty
    refine ⟨v, rfl, v, t, rfl, ty, ht, _, rfl, ?_⟩
    rw [e]
    rcases hv with ⟨x, rfl, rfl⟩ | ⟨rfl, _⟩
    · refine iteF ?_
      refine ⟨_, rfl, _, _, rfl, rfl, _, rfl, ite2 (fun h2 => ?_) (fun h2 => ?_)⟩
      · have h3 : x ≤ 0 := of_decide_eq_true h2
        have e2 : possB (leastL n d) (some x) = false := by
          rw [possB_some, decide_eq_false (show ¬ 0 < x by omega)]
          rfl
        rw [e2] at q
        exact q _ (Same.refl _)
      · have h3 : ¬ x ≤ 0 := fun z => h2 (decide_eq_true z)
        refine ⟨_, rfl, _, rfl, _, _, rfl, rfl, _, rfl, ite2 (fun z => absurd (of_decide_eq_true z : (n : Int) < (d : Int)) (by omega)) (fun _ => ?_)⟩
        obtain ⟨c, rfl⟩ := Int.eq_ofNat_of_zero_le (show 0 ≤ x by omega)
        refine ⟨_, rfl, _, rfl, n, d, rfl, hn, hd, fun p np => ?_⟩
        have s0 := same_new (o := .lst (setV (partsV n d))) np
        refine ⟨p, rfl, ⟨_, SqL.of upd_same⟩, for_list (K := K) (a := p) (xs := setV (partsV n d)) (fun i σ H2 => (∃ u, σ = [some (.int n), some (.int d), some (.int c), u]) ∧ H2 = upd H p (.lst (setV (partsV n d))) ∧ ∀ k, k < i → (n - k) ∣ c) ⟨⟨none, rfl⟩, rfl, fun k hk => absurd hk (Nat.not_lt_zero k)⟩ ?_ ?_ ?_⟩
        · rintro i σ H2 _ ⟨⟨u, rfl⟩, rfl, _⟩
          exact SqL.of upd_same
        · rintro i z σ H2 hz ⟨⟨u, rfl⟩, rfl, ih⟩
          obtain ⟨m, hm, rfl⟩ := setV_get hz
          have hid : i < d := by
            have := (List.getElem?_eq_some_iff.mp hm).1
            rw [parts_len] at this
            exact this
          obtain rfl : n - i = m := Option.some.inj ((parts_at hid).symm.trans hm)
          refine ⟨_, rfl, _, rfl, _, _, rfl, rfl, (by omega : (0 : Int) < ((n - i : Nat) : Int)), rfl, _, rfl, ?_⟩
          dsimp only
          rw [decV]
          refine ite2 (fun h5 => ?_) (fun h5 => ?_)
          · have h6 : ¬ (c : Int) % ((n - i : Nat) : Int) = 0 := by
              intro z
              rw [decide_eq_true z] at h5
              cases h5
            have h7 : ¬ (n - i) ∣ c := fun z => h6 (by rw [← Int.natCast_emod, Nat.mod_eq_zero_of_dvd z]; rfl)
            rw [poss_no hn h1 hd hid h7] at q
            exact q _ s0
          · have h6 : (c : Int) % ((n - i : Nat) : Int) = 0 := Classical.byContradiction fun z => h5 (by rw [decide_eq_false z]; rfl)
            refine ⟨⟨_, rfl⟩, rfl, fun k hk => ?_⟩
            by_cases ek : k = i
            · subst ek
              have : ((c % (n - k) : Nat) : Int) = 0 := by
                rw [Int.natCast_emod]
                exact h6
              exact Nat.dvd_of_mod_eq_zero (by omega)
            · exact ih k (by omega)
        · rintro σ H2 ⟨⟨u, rfl⟩, rfl, ih⟩
          rw [setV_len, parts_len] at ih
          rw [poss_yes hn h1 hd (by omega) ih] at q
          exact q _ s0
    · exact iteT (q _ (Same.refl _))
end
/-! ### NotPossible's __init__ -/
section
variable {P : Program} {w : World} {K : PySem.W.Frag} {mg : Str → Option Value} {base : Heap}
theorem ok_notp (T : Txt K mg) {j : Nat} : FnOk P w K mg base CX0 (j + 1) T.fNotP T.fdNotP ["self", "count"] (spErr K T.cNotP "count") := by
  refine T.FNotP.ok scNotP (fun vs H Q E h => ?_) (fun cdv A outer s H vs Q E hr h => ?_)
  · obtain ⟨a, v, rfl, _⟩ := h
    rfl
  · obtain ⟨a, v, rfl, ha, q⟩ := h
    refine ⟨_, pss_cons (ps_expr (pe_baseInit (by rfl) T.gcBase T.btBase.sp T.btBase.ty T.btBase.rd T.btBase.fc (pa_cons (pv 0) (pa_cons pe_str pa_nil)))) (pss_one (ps_ost (pv 0) (pv 1))), ?_⟩
    refine ⟨.ref a, rfl, a, T.cNotP, _, rfl, (by show 1 ≤ 1000; decide), T.eNotP.ox, ha, ?_⟩
    refine ⟨v, rfl, .ref a, rfl, a, T.cNotP, rfl, T.eNotP.ox, T.eNotP.no, .inl ⟨ha, fun dx nd ne => q dx nd ne⟩⟩
end
/-! ### check_possible -/
def spChkP (K : PySem.W.Frag) (CN : Addr) : Sp := fun vs H Q E => ∃ (n d : Nat) (v : V) (o : Option Int), vs = [.int n, .int d, v] ∧ n ≤ 60 ∧ 1 ≤ n ∧ d ≤ n ∧ CountV K H v o ∧
  (possB (leastL n d) o = true → ∀ H', Same H H' → Q .non H') ∧ (possB (leastL n d) o = false → Raised "count" CN v H E)
section
variable {P : Program} {w : World} {K : PySem.W.Frag} {mg : Str → Option Value} {base : Heap}
theorem ok_chkp (T : Txt K mg) {j : Nat} : FnOk P w K mg base (L2.CX P w) (j + 5) T.fChkP T.fdChkP ["n", "depth", "count"] (spChkP K T.cNotP) := by
  refine T.FChkP.okX scChkP (fun vs H Q E h => ?_) (fun cdv A outer s H vs Q E hr h => ?_)
  · obtain ⟨n, d, v, o, rfl, _⟩ := h
    rfl
  · obtain ⟨n, d, v, o, rfl, hn, h1, hd, hv, q1, q2⟩ := h
    refine ⟨_, pss_one (ps_if (pt_not (pt_val (pe_call (ok_poss T) hr (by rfl) T.gPoss T.FPoss.kp T.bPoss .nil pass0 (pa_cons (pv 0) (pa_cons (pv 1) (pa_cons (pv 2) pa_nil)))))) (pss_one (ps_raise rfl (takes_of rfl rfl rfl rfl) (pmk_oex T.eNotP.ox T.eNotP.iC T.eNotP.tI (ok_notp T) hr T.bNotP .nil pass0 (by rfl) T.gcNotP (pa_cons (pv 2) pa_nil)))) pss_nil), ?_⟩
    refine ⟨_, rfl, _, rfl, v, rfl, n, d, v, o, rfl, hn, h1, hd, hv, fun H1 s1 => ⟨_, rfl, ?_⟩⟩
    cases e : possB (leastL n d) o with
    | true => exact iteF (q1 e _ s1)
    | false =>
      refine iteT ⟨v, rfl, (by show 1 ≤ 1000; decide), fun a na => ⟨a, v, rfl, upd_same, fun dx nd ne => ?_⟩⟩
      obtain ⟨e1, e2, e3, e4, e5⟩ := err_end (f := "count") (v := v) na nd ne
      exact ⟨rfl, dx, _, e1, e2, e3, q2 e _ dx (s1.trans e4) e5 (s1.free e3)⟩
end
/-! ### NoNumber's __init__ -/
section
variable {P : Program} {w : World} {K : PySem.W.Frag} {mg : Str → Option Value} {base : Heap}
theorem ok_non (T : Txt K mg) {j : Nat} : FnOk P w K mg base CX0 (j + 1) T.fNoN T.fdNoN ["self", "value"] (spErr K T.cNoN "value") := by
  refine T.FNoN.ok scNoN (fun vs H Q E h => ?_) (fun cdv A outer s H vs Q E hr h => ?_)
  · obtain ⟨a, v, rfl, _⟩ := h
    rfl
  · obtain ⟨a, v, rfl, ha, q⟩ := h
    refine ⟨_, pss_cons (ps_expr (pe_baseInit (by rfl) T.gcBase T.btBase.sp T.btBase.ty T.btBase.rd T.btBase.fc (pa_cons (pv 0) (pa_cons pe_str pa_nil)))) (pss_one (ps_ost (pv 0) (pv 1))), ?_⟩
    refine ⟨.ref a, rfl, a, T.cNoN, _, rfl, (by show 1 ≤ 1000; decide), T.eNoN.ox, ha, ?_⟩
    refine ⟨v, rfl, .ref a, rfl, a, T.cNoN, rfl, T.eNoN.ox, T.eNoN.no, .inl ⟨ha, fun dx nd ne => q dx nd ne⟩⟩
end
/-! ### check_number -/
def spChkN (K : PySem.W.Frag) (CN : Addr) : Sp := fun vs H Q E => ∃ (m : Nat) (v : V) (o : Option Int), vs = [v, .int m] ∧ CountV K H v o ∧
  (numB m o = true → Q .non H) ∧ (numB m o = false → Raised "value" CN v H E)
section
variable {P : Program} {w : World} {K : PySem.W.Frag} {mg : Str → Option Value} {base : Heap}
theorem ok_chkn (T : Txt K mg) {j : Nat} : FnOk P w K mg base (L2.CX P w) (j + 3) T.fChkN T.fdChkN ["value", "many"] (spChkN K T.cNoN) := by
  refine T.FChkN.okX scChkN (fun vs H Q E h => ?_) (fun cdv A outer s H vs Q E hr h => ?_)
  · obtain ⟨m, v, o, rfl, _⟩ := h
    rfl
  · obtain ⟨m, v, o, rfl, hv, q1, q2⟩ := h
    refine ⟨_, pss_one (ps_if (PW.pt (pw_or (pt_not (pt_val (pe_call (ok_plain T) hr (by rfl) T.gPlain T.FPlain.kp T.bPlain .nil pass0 (pa_cons (pv 0) pa_nil)))) (pw_or (pt_cmpR op_lt (pv 0) pe_int (nomark _)) (pw_or1 (pt_cmpR op_ge (pv 0) (pv 1) (nomark _)))))) (pss_one (ps_raise rfl (takes_of rfl rfl rfl rfl) (pmk_oex T.eNoN.ox T.eNoN.iC T.eNoN.tI (ok_non T) hr T.bNoN .nil pass0 (by rfl) T.gcNoN (pa_cons (pv 0) pa_nil)))) pss_nil), ?_⟩
    have raise : numB m o = false → (tMkO T.cNoN (spErr K T.cNoN "value") [] (tCons (tVar 0) tNil)) [some v, some (.int m)] H (fun cls d H' => E cls d H') := fun ho => by
      refine ⟨v, rfl, (by show 1 ≤ 1000; decide), fun a na => ⟨a, v, rfl, upd_same, fun dx nd ne => ?_⟩⟩
      obtain ⟨e1, e2, e3, e4, e5⟩ := err_end (f := "value") (v := v) na nd ne
      exact ⟨rfl, dx, _, e1, e2, e3, q2 ho _ dx e4 e5 e3⟩
    obtain ⟨t, ht, e, ty⟩ := hv.ty
    refine ⟨v, rfl, v, t, rfl, ty, ht, _, rfl, ?_⟩
    rw [e]
    rcases hv with ⟨c, rfl, rfl⟩ | ⟨rfl, _⟩
    · refine iteF ?_
      refine ⟨_, rfl, _, _, rfl, rfl, _, rfl, ite2 (fun h1 => ?_) (fun h1 => ?_)⟩
      · have h2 : c < 0 := of_decide_eq_true h1
        refine raise ?_
        rw [numB_some, decide_eq_false (show ¬ 0 ≤ c by omega)]
        rfl
      · have h2 : ¬ c < 0 := fun z => h1 (decide_eq_true z)
        refine ⟨_, rfl, _, rfl, _, _, rfl, rfl, _, rfl, ite2 (fun h3 => ?_) (fun h3 => ?_)⟩
        · have h4 : (m : Int) ≤ c := of_decide_eq_true h3
          refine raise ?_
          rw [numB_some, decide_eq_false (show ¬ c < (m : Int) by omega), Bool.and_false]
        · have h4 : ¬ (m : Int) ≤ c := fun z => h3 (decide_eq_true z)
          refine q1 ?_
          rw [numB_some, decide_eq_true (show (0 : Int) ≤ c by omega), decide_eq_true (show c < (m : Int) by omega)]
          rfl
    · refine iteT ?_
      exact raise rfl
end
/-! ### level_widths -/
def spWid : Sp := fun vs H Q _ => ∃ n d c : Nat, vs = [.int n, .int d, .int c] ∧ n ≤ 60 ∧ 1 ≤ n ∧ d ≤ n ∧ ∀ H' p, Same H H' → H p = none → H' p = some (.lst (setV (wdsL n c d))) → Q (.ref p) H'
section
variable {P : Program} {w : World} {K : PySem.W.Frag} {mg : Str → Option Value} {base : Heap}
theorem ok_wid (T : Txt K mg) {j : Nat} : FnOk P w K mg base CX0 (j + 1) T.fWid T.fdWid ["n", "depth", "count"] spWid := by
  refine T.FWid.ok scWid (fun vs H Q E h => ?_) (fun cdv A outer s H vs Q E hr h => ?_)
  · obtain ⟨n, d, c, rfl, _⟩ := h
    rfl
  · obtain ⟨n, d, c, rfl, hn, h1, hd, q⟩ := h
    refine ⟨_, pss_cons (ps_set (i := 3) scWid.nd rfl (.inl rfl) (pe_lst pa_nil)) (pss_cons (ps_set (i := 4) scWid.nd rfl (.inl rfl) (pv 0)) (pss_cons (ps_for PassesOwn.never rfl (pi_range1 (by rfl) T.n_range (pa_cons (pv 1) pa_nil)) (pg_name (i := 5) scWid.nd rfl (.inl rfl)) (pss_cons (ps_expr (pe_bm PySem.F.plainAttrs_list PySem.F.slot_list_append PySem.F.type_list_append mt_append (pv 3) (pa_cons (pe_op op_fdivW (pv 2) (pv 4)) pa_nil))) (pss_one (ps_set (i := 4) scWid.nd rfl (.inl rfl) (pe_op op_fdivW (pe_op op_mul (pv 4) (pe_op op_sub (pe_op op_sub (pv 0) pe_int) (pv 5))) (pe_op op_add (pv 5) pe_int)))))) (pss_one (ps_ret (pv 3))))), ?_⟩
    refine ⟨Nat.zero_le _, fun pw nw => ?_⟩
    refine ⟨_, rfl, _, rfl, (d : Int), rfl, by omega, by omega, ?_⟩
    refine for_range (lo := 0) (n := (d : Int).toNat) (fun i σ H2 => ∃ u, σ = [some (.int n), some (.int d), some (.int c), some (.ref pw), some (.int ((n * C (n - 1) i : Nat) : Int)), u] ∧ Same H H2 ∧ H2 pw = some (.lst (setV (wdsL n c i)))) ⟨none, by rw [C_zero, Nat.mul_one]; rfl, same_new nw, upd_same⟩ ?_ ?_
    · rintro i σ H2 hi ⟨u, rfl, s2, hW⟩
      have hid : i < n := by omega
      have e0 := edge_pos hid
      have e1 := edge_lt (d := i) hn
      rw [Int.zero_add]
      refine ⟨.ref pw, rfl, .inl ⟨rfl, _, SqL.of hW⟩, _, rfl, _, rfl, _, _, rfl, rfl, wide_div (b := 64) (by omega) (by omega) (by decide) (by decide), pw, _, _, rfl, rfl, hW, ?_, ?_⟩
      · rw [setV_len, wds_len]
        exact small1000 (by omega)
      refine ⟨_, rfl, _, rfl, _, _, rfl, rfl, _, rfl, _, _, rfl, rfl, _, _, rfl, rfl, .inl ⟨by omega, by omega⟩, _, rfl, _, _, rfl, rfl, _, _, rfl, rfl, wide_div (b := 64) (by omega) (by omega) (by decide) (by decide), ?_⟩
      refine ⟨some (.int (i : Int)), ?_, keep_upd s2 nw, ?_⟩
      · have es : ((n * C (n - 1) (i + 1) : Nat) : Int) = ((n * C (n - 1) i : Nat) : Int) * ((n : Int) - 1 - (i : Int)) / ((i : Int) + 1) := by
          rw [← edge_step hid, Int.natCast_ediv, Int.natCast_mul (n * C (n - 1) i), show ((n - 1 - i : Nat) : Int) = (n : Int) - 1 - (i : Int) by omega]
          rfl
        rw [es]
        rfl
      · rw [upd_same, wds_step, setV_app]
        show _ = some (HO.lst (_ ++ [V.int ((c / (n * C (n - 1) i) : Nat) : Int)]))
        rw [Int.natCast_ediv]
    · rintro σ H2 ⟨u, rfl, s2, hW⟩
      rw [Int.toNat_natCast] at hW
      exact ⟨_, rfl, q _ pw s2 nw hW⟩
end
/-! ### follow, path, list_at, place_at -/
def spFollow (K : PySem.W.Frag) : Sp := fun vs H Q _ => ∃ (n c : Nat) (a b : Addr) (ss L : List Nat) (r : Nat), vs = [.ref a, .ref b, .int r] ∧ c < 2 ^ 500 ∧ SqL K H a (setV (ss.map (wd n c))) ∧ ss.length ≤ 60 ∧ (SqL K H b (setV L) ∨ SqT K H b (setV L)) ∧ L.length ≤ 60 ∧ (∀ x ∈ L, x < 60) ∧ FolOk n c ss L r ∧
  ∀ H' u, Same H H' → PairAt H H' u (fol n c ss L r).1 (fol n c ss L r).2 → Q (.ref u) H'
section
variable {P : Program} {w : World} {K : PySem.W.Frag} {mg : Str → Option Value} {base : Heap}
theorem ok_follow (T : Txt K mg) {j : Nat} : FnOk P w K mg base CX0 (j + 3) T.fFollow T.fdFollow ["widths", "servers", "rest"] (spFollow K) := by
  refine T.FFollow.ok scFollow (fun vs H Q E h => ?_) (fun cdv A outer s H vs Q E hr h => ?_)
  · obtain ⟨n, c, a, b, ss, L, r, rfl, _⟩ := h
    rfl
  · obtain ⟨n, c, a, b, ss, L, r, rfl, hc, hS, hsl, hL, hLl, hLx, ok, q⟩ := h
    refine ⟨_, pss_cons (ps_set (i := 3) scFollow.nd rfl (.inl rfl) (pe_callTy (call_listK K) (by rfl) T.n_list (by decide +kernel) (pa_cons (pv 1) pa_nil))) (pss_cons (ps_set (i := 4) scFollow.nd rfl (.inl rfl) (pe_lst pa_nil)) (pss_cons (ps_for PassesOwn.never rfl (pi_list (pv 0)) (pg_name (i := 5) scFollow.nd rfl (.inl rfl)) (pss_cons (ps_set (i := 6) scFollow.nd rfl (.inl rfl) (pe_op op_fdivW (pv 2) (pv 5))) (pss_cons (ps_set (i := 7) scFollow.nd rfl (.inl rfl) (pe_bm PySem.F.plainAttrs_list PySem.F.slot_list_pop PySem.F.type_list_pop mt_popAt (pv 3) (pa_cons (pv 6) pa_nil))) (pss_cons (ps_expr (pe_bm PySem.F.plainAttrs_list PySem.F.slot_list_append PySem.F.type_list_append mt_append (pv 4) (pa_cons (pv 7) pa_nil))) (pss_one (ps_aug (i := 2) scFollow.nd rfl (.inl rfl) (pe_op op_mul (pv 5) (pe_op op_sub (pe_op op_sub (pv 7) (pv 6)) (pv 6))) ip_add)))))) (pss_one (ps_ret (pe_tup (pa_cons (pe_callTy (call_tupleK K) (by rfl) T.n_tuple (by decide +kernel) (pa_cons (pv 4) pa_nil)) (pa_cons (pv 2) pa_nil))))))), ?_⟩
    refine ⟨.ref b, rfl, b, _, rfl, hL, fun pl nl => ?_⟩
    refine ⟨Nat.zero_le _, fun pt nt => ?_⟩
    have npt : pt ≠ pl := fun z => by
      rw [z, upd_same] at nt
      cases nt
    have ft : H pt = none := (same_new nl).free nt
    refine ⟨.ref a, rfl, a, rfl, ⟨_, Same.seq (same_new nt) (Same.seq (same_new nl) hS)⟩, for_list (K := K) (a := a) (xs := setV (ss.map (wd n c))) (fun i σ H2 => ∃ (pre M : List Nat) (x : Nat) (v8 v9 v10 : Option V), σ = [some (.ref a), some (.ref b), some (.int (x : Int)), some (.ref pl), some (.ref pt), v8, v9, v10] ∧ Same H H2 ∧ H2 pl = some (.lst (setV M)) ∧ H2 pt = some (.lst (setV pre)) ∧ M.length ≤ 60 ∧ pre.length = i ∧ (∀ x ∈ M, x < 60) ∧ FolOk n c (ss.drop i) M x ∧ fol n c ss L r = (pre ++ (fol n c (ss.drop i) M x).1, (fol n c (ss.drop i) M x).2)) ?_ ?_ ?_ ?_⟩
    · refine ⟨[], L, r, none, none, none, rfl, (same_new nl).trans (same_new nt), ?_, upd_same, hLl, rfl, hLx, ok, rfl⟩
      rw [upd_ne npt.symm]
      exact upd_same
    · rintro i σ H2 hi ⟨pre, M, x, v8, v9, v10, rfl, s2, _⟩
      exact s2.seq hS
    · rintro i z σ H2 hz ⟨pre, M, x, v8, v9, v10, rfl, s2, hM, hP, hMl, hpl, hMx, okk, hf⟩
      have hil : i < ss.length := by
        have := (List.getElem?_eq_some_iff.mp hz).1
        rw [setV_len, List.length_map] at this
        exact this
      obtain rfl : z = V.int (wd n c ss[i] : Nat) := by
        rw [setV_at (m := wd n c ss[i]) (by rw [List.getElem?_map, List.getElem?_eq_getElem hil]; rfl)] at hz
        exact (Option.some.inj hz).symm
      rw [List.drop_eq_getElem_cons hil] at okk hf
      generalize ss[i] = sz at okk hf
      rw [fol_cons] at hf
      obtain ⟨w0, hix, hge, okk2⟩ := okk
      have wc := wd_le n c sz
      have hm : M.getD (x / wd n c sz) 0 < 60 := hMx _ (List.mem_of_getElem? (getD_of hix))
      have hdm := Nat.div_add_mod x (wd n c sz)
      refine ⟨_, rfl, _, rfl, _, _, rfl, rfl, wide_div (b := 500) (Int.ofNat_lt.mpr w0) (Nat.lt_of_le_of_lt wc hc) (by decide) (by decide), ?_⟩
      dsimp only [gName]
      rw [← Int.natCast_ediv]
      have hM2 := getD_of hix
      generalize x / wd n c sz = ix at hix hge okk2 hf hm hM2 hdm ⊢
      generalize M.getD ix 0 = sv at hge okk2 hf hm hM2
      refine ⟨.ref pl, rfl, .inl ⟨rfl, _, SqL.of hM⟩, _, rfl, pl, _, _, _, _, rfl, rfl, hM, by omega, by omega, seq_at (by rw [setV_len]; exact hix), setV_at hM2, ?_⟩
      rw [setV_erase]
      have hpt3 : (upd H2 pl (.lst (setV (M.eraseIdx ix)))) pt = some (.lst (setV pre)) := by
        rw [upd_ne npt]
        exact hP
      refine ⟨.ref pt, rfl, .inl ⟨rfl, _, SqL.of hpt3⟩, _, rfl, pt, _, _, rfl, rfl, hpt3, ?_, ?_⟩
      · rw [setV_len]
        have := hil
        exact small1000 (by omega)
      refine ⟨_, rfl, _, rfl, _, rfl, _, rfl, _, _, rfl, rfl, _, rfl, _, _, rfl, rfl, _, _, rfl, rfl, .inr ⟨by omega, by omega⟩, _, _, rfl, rfl, ?_⟩
      refine ⟨pre ++ [sv], M.eraseIdx ix, wd n c sz * (sv - ix) + x % wd n c sz, some (.int (wd n c sz : Nat)), some (.int (ix : Int)), some (.int (sv : Int)), ?_, ?_, ?_, ?_, ?_, ?_, ?_, okk2, ?_⟩
      · have e9 : ((wd n c sz * (sv - ix) + x % wd n c sz : Nat) : Int) = (x : Int) + (wd n c sz : Int) * ((sv : Int) - (ix : Int) - (ix : Int)) := by
          have e8 : (x : Int) = (wd n c sz : Int) * (ix : Int) + ((x % wd n c sz : Nat) : Int) := by
            rw [← Int.natCast_mul, ← Int.natCast_add, hdm]
          rw [Int.natCast_add, Int.natCast_mul, Int.natCast_sub hge]
          simp only [Int.mul_sub]
          omega
        rw [e9]
        rfl
      · exact keep_upd (keep_upd s2 nl) ft
      · rw [upd_ne npt.symm]
        exact upd_same
      · rw [upd_same, setV_app]
        rfl
      · rw [List.length_eraseIdx]
        split <;> omega
      · rw [List.length_append, hpl]
        rfl
      · exact fun y hy => hMx y (List.mem_of_mem_eraseIdx hy)
      · rw [hf, List.append_assoc]
        rfl
    · rintro σ H2 ⟨pre, M, x, v8, v9, v10, rfl, s2, hM, hP, hMl, hpl, hMx, okk, hf⟩
      rw [setV_len, List.length_map, List.drop_length] at hf
      refine ⟨.ref pt, rfl, pt, _, rfl, .inl ⟨SqL.of hP, fun l nl2 => ?_⟩⟩
      refine ⟨_, rfl, (by show 2 ≤ sizeLine; decide), fun u nu => ?_⟩
      have f1 := s2.free nl2
      refine q _ u ((s2.trans (same_new nl2)).trans (same_new nu)) ⟨(s2.trans (same_new nl2)).free nu, l, f1, ?_, ?_⟩
      · rw [upd_same, hf]
        rfl
      · rw [upd_ne (ne_of_none (o := .tup (setV pre)) upd_same nu), upd_same, hf]
        show _ = some (HO.tup (setV (pre ++ [])))
        rw [List.append_nil]
end
/-! ### path, list_at, place_at -/
def spPath : Sp := fun vs H Q _ => ∃ (n d c k : Nat), vs = [.int n, .int d, .int c, .int k] ∧ Std n d c ∧ k < c ∧ c < 2 ^ 500 ∧
  ∀ H' u, Same H H' → PairAt H H' u (path n d c k).1 (path n d c k).2 → Q (.ref u) H'
/-- a count that is possible, and a number below it -/
def spListAt (K : PySem.W.Frag) (CP CN : Addr) (G : Nat → Nat → Nat → Nat → Hp → VK → Prop) : Sp := fun vs H Q E => ∃ (n d : Nat) (v : V) (o : Option Int) (u : V) (m : Option Int), vs = [.int n, .int d, v, u] ∧ n ≤ 60 ∧ 1 ≤ n ∧ d ≤ n ∧ CountV K H v o ∧ CountV K H u m ∧
  (possB (leastL n d) o = false → Raised "count" CP v H E) ∧
  (∀ c : Nat, o = some (c : Int) → Std n d c → c < 2 ^ 500 ∧ (numB c m = false → Raised "value" CN u H E) ∧ (∀ k : Nat, m = some (k : Int) → k < c → G n d c k H Q))
def gList : Nat → Nat → Nat → Nat → Hp → VK → Prop := fun n d c k H Q => ∀ H' t, Same H H' → H t = none → H' t = some (.tup (setV (path n d c k).1)) → Q (.ref t) H'
def gPlace : Nat → Nat → Nat → Nat → Hp → VK → Prop := fun n d c k H Q => ∀ H' u ms, Same H H' → ms.Perm (path n d c k).1 → Asc ms → PairAt H H' u ms (path n d c k).2 → Q (.ref u) H'
theorem spListAt_ok {K : PySem.W.Frag} {CP CN : Addr} {G : Nat → Nat → Nat → Nat → Hp → VK → Prop} {n d c k : Nat} {H : Hp} {Q : VK} {E : XK} (st : Std n d c) (hk : k < c) (hc : c < 2 ^ 500) (g : G n d c k H Q) : spListAt K CP CN G [.int n, .int d, .int c, .int k] H Q E := by
  refine ⟨n, d, .int c, some c, .int k, some k, rfl, st.n60, st.n1, st.dn, .inl ⟨c, rfl, rfl⟩, .inl ⟨k, rfl, rfl⟩, fun h => ?_, fun c' e st' => ?_⟩
  · rw [std_poss st] at h
    cases h
  · have e2 := Option.some.inj e
    obtain rfl : c = c' := by omega
    refine ⟨hc, fun h => ?_, fun k' e3 hk' => ?_⟩
    · rw [numB_some, decide_eq_true (show (0 : Int) ≤ (k : Int) by omega), decide_eq_true (show (k : Int) < (c : Int) by omega)] at h
      cases h
    · have e4 := Option.some.inj e3
      obtain rfl : k = k' := by omega
      exact g
theorem gList.on {n d c k : Nat} {H H1 : Hp} {Q : VK} (s : Same H H1) (g : gList n d c k H Q) : gList n d c k H1 Q := fun H' t s2 nt e => g H' t (s.trans s2) (s.free nt) e
theorem gPlace.on {n d c k : Nat} {H H1 : Hp} {Q : VK} (s : Same H H1) (g : gPlace n d c k H Q) : gPlace n d c k H1 Q := fun H' u ms s2 pm a pu => g H' u ms (s.trans s2) pm a (pu.back s)
section
variable {P : Program} {w : World} {K : PySem.W.Frag} {mg : Str → Option Value} {base : Heap}
theorem ok_path (T : Txt K mg) {j : Nat} : FnOk P w K mg base CX0 (j + 4) T.fPath T.fdPath ["n", "depth", "count", "number"] spPath := by
  refine T.FPath.ok scPath (fun vs H Q E h => ?_) (fun cdv A outer s H vs Q E hr h => ?_)
  · obtain ⟨n, d, c, k, rfl, _⟩ := h
    rfl
  · obtain ⟨n, d, c, k, rfl, st, hk, hc, q⟩ := h
    have hn := st.n60
    have hd := st.dn
    refine ⟨_, pss_one (ps_ret (pe_call (ok_follow T) hr (by rfl) T.gFollow T.FFollow.kp T.bFollow .nil pass0 (pa_cons (pe_call (ok_wid T) hr (by rfl) T.gWid T.FWid.kp T.bWid .nil pass0 (pa_cons (pv 0) (pa_cons (pv 1) (pa_cons (pv 2) pa_nil)))) (pa_cons (pe_listRg rfl (by rfl) T.n_list (prg_1 (by rfl) T.n_range (pv 0))) (pa_cons (pv 3) pa_nil))))), ?_⟩
    refine ⟨_, rfl, _, rfl, _, rfl, n, d, c, rfl, hn, st.n1, hd, fun H1 a s1 na hA => ?_⟩
    refine ⟨_, rfl, _, rfl, .of_le (by omega) (by omega) (by omega) (by omega), fun b nb => ?_⟩
    rw [setV_range n]
    have s2 := same_new (o := .lst (setV (List.range' 0 n))) nb
    have hw : wdsL n c d = (List.range' 0 d).map (wd n c) := by
      unfold wdsL
      rw [List.range_eq_range']
    rw [hw] at hA
    refine ⟨_, rfl, n, c, a, b, List.range' 0 d, List.range' 0 n, k, rfl, hc, SqL.of (s2 _ _ hA), ?_, .inl (SqL.of upd_same), ?_, fun x hx => ?_, path_ok st hk, fun H' u s3 pu => ?_⟩
    · rw [List.length_range']
      omega
    · rw [List.length_range']
      omega
    · have := mem_range0.mp hx
      omega
    · exact q H' u ((s1.trans s2).trans s3) (pu.back (s1.trans s2))
end
/-! ### list_at -/
section
variable {P : Program} {w : World} {K : PySem.W.Frag} {mg : Str → Option Value} {base : Heap}
theorem ok_listat (T : Txt K mg) {j : Nat} : FnOk P w K mg base (L2.CX P w) (j + 6) T.fListAt T.fdListAt ["n", "depth", "count", "number"] (spListAt K T.cNotP T.cNoN gList) := by
  refine T.FListAt.okX scListAt (fun vs H Q E h => ?_) (fun cdv A outer s H vs Q E hr h => ?_)
  · obtain ⟨n, d, v, o, u, m, rfl, _⟩ := h
    rfl
  · obtain ⟨n, d, v, o, u, m, rfl, hn, h1, hd, hv, hu, q1, q2⟩ := h
    refine ⟨_, pss_cons (ps_expr (pe_call (ok_chkp T) hr (by rfl) T.gChkP T.FChkP.kp T.bChkP .nil (passes_call (takes_of rfl rfl rfl rfl) (fun _ _ _ _ h => h)) (pa_cons (pv 0) (pa_cons (pv 1) (pa_cons (pv 2) pa_nil))))) (pss_cons (ps_expr (pe_call (ok_chkn T) hr (by rfl) T.gChkN T.FChkN.kp T.bChkN .nil (passes_call (takes_of rfl rfl rfl rfl) (fun _ _ _ _ h => h)) (pa_cons (pv 3) (pa_cons (pv 2) pa_nil)))) (PSs.nox (pss_cons (ps_asg (pe_call (ok_path T) hr (by rfl) T.gPath T.FPath.kp T.bPath .nil pass0 (pa_cons (pv 0) (pa_cons (pv 1) (pa_cons (pv 2) (pa_cons (pv 3) pa_nil))))) (pg_tup rfl (pgs_cons (pg_name (i := 4) scListAt.nd rfl (.inl rfl)) (pgs_cons (pg_name (i := 5) scListAt.nd rfl (.inl rfl)) pgs_nil)))) (pss_one (ps_ret (pv 4)))))), ?_⟩
    refine ⟨_, rfl, _, rfl, v, rfl, n, d, v, o, rfl, hn, h1, hd, hv, fun hp H0 s0 => ?_, q1⟩
    obtain ⟨c, rfl, st⟩ := poss_std hn h1 hd hp
    obtain ⟨hc, q2, q3⟩ := q2 c rfl st
    replace q2 := fun z => (q2 z).on s0
    replace q3 := fun k e z => gList.on s0 (q3 k e z)
    replace hu := hu.same s0
    obtain rfl : v = .int (c : Int) := by
      rcases hv with ⟨x, e, rfl⟩ | ⟨e, _⟩
      · rw [← Option.some.inj e]
      · cases e
    refine ⟨u, rfl, _, rfl, c, u, m, rfl, hu, fun hm => ?_, q2⟩
    obtain ⟨k, rfl, hk⟩ := num_lt hm
    obtain rfl : u = .int (k : Int) := by
      rcases hu with ⟨x, e, rfl⟩ | ⟨e, _⟩
      · rw [← Option.some.inj e]
      · cases e
    refine ⟨_, rfl, _, rfl, _, rfl, _, rfl, n, d, c, k, rfl, st, hk, hc, fun H' u s1 pu => ?_⟩
    obtain ⟨nu, t, nt, hu2, ht⟩ := pu
    refine ⟨u, _, rfl, SqT.of hu2, rfl, _, _, rfl, _, _, rfl, rfl, ?_⟩
    exact ⟨_, rfl, q3 k rfl hk H' t s1 nt ht⟩
end
/-! ### place_at -/
section
variable {P : Program} {w : World} {K : PySem.W.Frag} {mg : Str → Option Value} {base : Heap}
theorem ok_placeat (T : Txt K mg) {j : Nat} : FnOk P w K mg base (L2.CX P w) (j + 6) T.fPlaceAt T.fdPlaceAt ["n", "depth", "count", "number"] (spListAt K T.cNotP T.cNoN gPlace) := by
  refine T.FPlaceAt.okX scPlaceAt (fun vs H Q E h => ?_) (fun cdv A outer s H vs Q E hr h => ?_)
  · obtain ⟨n, d, v, o, u, m, rfl, _⟩ := h
    rfl
  · obtain ⟨n, d, v, o, u, m, rfl, hn, h1, hd, hv, hu, q1, q2⟩ := h
    refine ⟨_, pss_cons (ps_expr (pe_call (ok_chkp T) hr (by rfl) T.gChkP T.FChkP.kp T.bChkP .nil (passes_call (takes_of rfl rfl rfl rfl) (fun _ _ _ _ h => h)) (pa_cons (pv 0) (pa_cons (pv 1) (pa_cons (pv 2) pa_nil))))) (pss_cons (ps_expr (pe_call (ok_chkn T) hr (by rfl) T.gChkN T.FChkN.kp T.bChkN .nil (passes_call (takes_of rfl rfl rfl rfl) (fun _ _ _ _ h => h)) (pa_cons (pv 3) (pa_cons (pv 2) pa_nil)))) (PSs.nox (pss_cons (ps_asg (pe_call (ok_path T) hr (by rfl) T.gPath T.FPath.kp T.bPath .nil pass0 (pa_cons (pv 0) (pa_cons (pv 1) (pa_cons (pv 2) (pa_cons (pv 3) pa_nil))))) (pg_tup rfl (pgs_cons (pg_name (i := 4) scPlaceAt.nd rfl (.inl rfl)) (pgs_cons (pg_name (i := 5) scPlaceAt.nd rfl (.inl rfl)) pgs_nil)))) (pss_one (ps_ret (pe_tup (pa_cons (pe_callTy (call_tupleK K) (by rfl) T.n_tuple (by decide +kernel) (pa_cons (pe_callB (cr_sortTI K) (by rfl) T.n_sorted (by decide +kernel) (pa_cons (pv 4) pa_nil)) pa_nil)) (pa_cons (pv 5) pa_nil)))))))), ?_⟩
    refine ⟨_, rfl, _, rfl, v, rfl, n, d, v, o, rfl, hn, h1, hd, hv, fun hp H0 s0 => ?_, q1⟩
    obtain ⟨c, rfl, st⟩ := poss_std hn h1 hd hp
    obtain ⟨hc, q2, q3⟩ := q2 c rfl st
    replace q2 := fun z => (q2 z).on s0
    replace q3 := fun k e z => gPlace.on s0 (q3 k e z)
    replace hu := hu.same s0
    obtain rfl : v = .int (c : Int) := by
      rcases hv with ⟨x, e, rfl⟩ | ⟨e, _⟩
      · rw [← Option.some.inj e]
      · cases e
    refine ⟨u, rfl, _, rfl, c, u, m, rfl, hu, fun hm => ?_, q2⟩
    obtain ⟨k, rfl, hk⟩ := num_lt hm
    obtain rfl : u = .int (k : Int) := by
      rcases hu with ⟨x, e, rfl⟩ | ⟨e, _⟩
      · rw [← Option.some.inj e]
      · cases e
    refine ⟨_, rfl, _, rfl, _, rfl, _, rfl, n, d, c, k, rfl, st, hk, hc, fun H' u s1 pu => ?_⟩
    obtain ⟨nu, t, nt, hu2, ht⟩ := pu
    refine ⟨u, _, rfl, SqT.of hu2, rfl, _, _, rfl, _, _, rfl, rfl, ?_⟩
    have hpl := path_len n d c k
    refine ⟨.ref t, rfl, t, (path n d c k).1.map (fun (m : Nat) => (m : Int)), rfl, .inr (SqT.of (by rw [← setV_ints]; exact ht)), by rw [List.length_map]; omega, fun ns p hp2 hs np => ?_⟩
    obtain ⟨ms, rfl, pm⟩ := ints_back hp2
    rw [← setV_ints]
    refine ⟨p, _, rfl, .inl ⟨SqL.of upd_same, fun l nl => ?_⟩⟩
    refine ⟨_, rfl, (by show 2 ≤ sizeLine; decide), fun x nx => ?_⟩
    have s2 := s1.trans (same_new (o := .lst (setV ms)) np)
    have s3 := s2.trans (same_new (o := .tup (setV ms)) nl)
    refine q3 k rfl hk _ x ms (s3.trans (same_new nx)) pm (lt_of_le (le_back hs) (pm.nodup_iff.mpr (path_nodup st hk))) ⟨s3.free nx, l, s2.free nl, upd_same, ?_⟩
    rw [upd_ne (ne_of_none upd_same nx), upd_same]
end
/-! ### number_at -/
def spNumAt (K : PySem.W.Frag) (CP CN : Addr) : Sp := fun vs H Q E => ∃ (n : Nat) (v : V) (o : Option Int) (a : Addr) (ms : List Nat) (u : V) (m : Option Int), vs = [.int n, v, .ref a, u] ∧ n ≤ 60 ∧ 1 ≤ n ∧ SqT K H a (setV ms) ∧ Asc ms ∧ (∀ x ∈ ms, x < n) ∧ ms.length ≤ n ∧ CountV K H v o ∧ CountV K H u m ∧
  (possB (leastL n ms.length) o = false → Raised "count" CP v H E) ∧
  (∀ c : Nat, o = some (c : Int) → Std n ms.length c → c < 2 ^ 500 ∧ (numB (c / C n ms.length) m = false → Raised "value" CN u H E) ∧ (∀ k : Nat, m = some (k : Int) → k < c / C n ms.length → ∀ H', Same H H' → Q (.int (back n c ms k : Nat)) H'))
theorem place_of {n c k : Nat} {ms : List Nat} (h1 : Asc ms) (h2 : ∀ x ∈ ms, x < n) (h3 : k < c / C n ms.length) : Place n c ms.length ms k := ⟨h1, h2, rfl, h3⟩
section
variable {P : Program} {w : World} {K : PySem.W.Frag} {mg : Str → Option Value} {base : Heap}
theorem ok_numat (T : Txt K mg) {j : Nat} : FnOk P w K mg base (L2.CX P w) (j + 6) T.fNumAt T.fdNumAt ["n", "count", "members", "rest"] (spNumAt K T.cNotP T.cNoN) := by
  refine T.FNumAt.okX scNumAt (fun vs H Q E h => ?_) (fun cdv A outer s H vs Q E hr h => ?_)
  · obtain ⟨n, v, o, a, ms, u, m, rfl, _⟩ := h
    rfl
  · obtain ⟨n, v, o, a, ms, u, m, rfl, hn, h1, hA, asc, hx, hl, hv, hu, q1, q2⟩ := h
    refine ⟨_, pss_cons (ps_set (i := 4) scNumAt.nd rfl (.inl rfl) (pe_callB (call_lenK K) (by rfl) T.n_len PySem.boot_len (pa_cons (pv 2) pa_nil))) (pss_cons (ps_expr (pe_call (ok_chkp T) hr (by rfl) T.gChkP T.FChkP.kp T.bChkP .nil (passes_call (takes_of rfl rfl rfl rfl) (fun _ _ _ _ h => h)) (pa_cons (pv 0) (pa_cons (pv 4) (pa_cons (pv 1) pa_nil))))) (pss_cons (ps_expr (pe_call (ok_chkn T) hr (by rfl) T.gChkN T.FChkN.kp T.bChkN .nil (passes_call (takes_of rfl rfl rfl rfl) (fun _ _ _ _ h => h)) (pa_cons (pv 3) (pa_cons (pe_op op_fdivW (pv 1) (pe_call (ok_bin T) hr (by rfl) T.gBin T.FBin.kp T.bBin .nil pass0 (pa_cons (pv 0) (pa_cons (pv 4) pa_nil)))) pa_nil)))) (PSs.nox (pss_cons (ps_set (i := 5) scNumAt.nd rfl (.inl rfl) (pe_call (ok_wid T) hr (by rfl) T.gWid T.FWid.kp T.bWid .nil pass0 (pa_cons (pv 0) (pa_cons (pv 4) (pa_cons (pv 1) pa_nil))))) (pss_cons (ps_asg (pe_call (ok_follow T) hr (by rfl) T.gFollow T.FFollow.kp T.bFollow .nil pass0 (pa_cons (pe_listRevL rfl (by rfl) T.n_list (by rfl) T.n_reversed (pv 5)) (pa_cons (pv 2) (pa_cons (pv 3) pa_nil)))) (pg_tup rfl (pgs_cons (pg_name (i := 6) scNumAt.nd rfl (.inl rfl)) (pgs_cons (pg_name (i := 7) scNumAt.nd rfl (.inl rfl)) pgs_nil)))) (pss_one (ps_ret (pv 7)))))))), ?_⟩
    refine ⟨.ref a, rfl, a, _, rfl, .inr hA, ?_⟩
    dsimp only [gName]
    rw [setV_len]
    refine ⟨_, rfl, _, rfl, v, rfl, n, ms.length, v, o, rfl, hn, h1, hl, hv, fun hp H0 s0 => ?_, q1⟩
    obtain ⟨c, rfl, st⟩ := poss_std hn h1 hl hp
    obtain ⟨hc, q2, q3⟩ := q2 c rfl st
    replace q2 := fun z => (q2 z).on s0
    replace hu := hu.same s0
    replace hA := Same.seqT s0 hA
    obtain rfl : v = .int (c : Int) := by
      rcases hv with ⟨x, e, rfl⟩ | ⟨e, _⟩
      · rw [← Option.some.inj e]
      · cases e
    have p0 := C_pos n ms.length hl
    have p6 := C_60 n ms.length hn
    have eb : binZ (n : Int) (ms.length : Int) = (C n ms.length : Int) := binZ_nat _ _
    refine ⟨u, rfl, _, rfl, _, rfl, _, rfl, _, _, rfl, by omega, _, _, rfl, rfl, ?_, ?_⟩
    · rw [eb]
      exact wide_div (b := 64) (by omega) (by omega) (by decide) (by decide)
    refine ⟨c / C n ms.length, u, m, ?_, hu, fun hm => ?_, q2⟩
    · dsimp only
      rw [eb, Int.natCast_ediv]
      rfl
    obtain ⟨k, rfl, hk⟩ := num_lt hm
    obtain rfl : u = .int (k : Int) := by
      rcases hu with ⟨x, e, rfl⟩ | ⟨e, _⟩
      · rw [← Option.some.inj e]
      · cases e
    have pl := place_of asc hx hk
    have ok := back_ok st.c0 ms.length ms k hl (fun k hk => st.dvd k hk) pl
    refine ⟨_, rfl, _, rfl, _, rfl, n, ms.length, c, rfl, hn, h1, hl, fun H1 p s1 np hP => ?_⟩
    refine ⟨.ref p, rfl, p, _, rfl, SqL.of hP, fun b nb => ?_⟩
    have s2 := same_new (o := .lst (setV (wdsL n c ms.length)).reverse) nb
    have er : (setV (wdsL n c ms.length)).reverse = setV ((List.range' 0 ms.length).reverse.map (wd n c)) := by
      unfold setV wdsL
      rw [← List.map_reverse, ← List.map_reverse, List.range_eq_range']
    rw [er]
    refine ⟨.ref a, rfl, _, rfl, n, c, b, a, (List.range' 0 ms.length).reverse, ms, k, rfl, hc, SqL.of upd_same, ?_, .inr (Same.seqT (s1.trans (same_new nb)) hA), by omega, fun x h => by have := hx x h; omega, ok, fun H' u s3 pu => ?_⟩
    · rw [List.length_reverse, List.length_range']
      omega
    obtain ⟨nu, t, nt, hu2, ht⟩ := pu
    refine ⟨u, _, rfl, SqT.of hu2, rfl, _, _, rfl, _, _, rfl, rfl, ?_⟩
    exact ⟨_, rfl, q3 k rfl hk H' (((s0.trans s1).trans (same_new nb)).trans s3)⟩
end
/-! ### numbers_with -/
theorem erase_ints : ∀ (l : List Nat) (k : Nat), (l.map fun (m : Nat) => (m : Int)).eraseIdx k = (l.eraseIdx k).map fun (m : Nat) => (m : Int)
  | [], _ => rfl
  | _ :: _, 0 => rfl
  | a :: r, k + 1 => congrArg ((a : Int) :: ·) (erase_ints r k)
def w0st (n c : Nat) : Wst := ⟨0, (c : Int), 0, List.range' 0 n⟩
def spNumW (K : PySem.W.Frag) (CP : Addr) : Sp := fun vs H Q E => ∃ (n : Nat) (v : V) (o : Option Int) (a : Addr) (t : List Nat), vs = [.int n, v, .ref a] ∧ n ≤ 60 ∧ 1 ≤ n ∧ SqT K H a (setV t) ∧ t.length ≤ n ∧ (∀ x ∈ t, x < 60) ∧ CountV K H v o ∧
  (possB (leastL n t.length) o = false → Raised "count" CP v H E) ∧
  (∀ c : Nat, o = some (c : Int) → Std n t.length c → c < 2 ^ 500 ∧ (wRun n c 0 t (w0st n c) = none → ∀ H', Same H H' → Q .non H') ∧ (∀ y, wRun n c 0 t (w0st n c) = some y → ∀ H' u, Same H H' → H u = none → H' u = some (.tup [.int y.lo, .int (y.hi - y.lo)]) → Q (.ref u) H'))
section
variable {P : Program} {w : World} {K : PySem.W.Frag} {mg : Str → Option Value} {base : Heap}
theorem ok_numw (T : Txt K mg) {j : Nat} : FnOk P w K mg base (L2.CX P w) (j + 6) T.fNumW T.fdNumW ["n", "count", "beginning"] (spNumW K T.cNotP) := by
  refine T.FNumW.okX scNumW (fun vs H Q E h => ?_) (fun cdv A outer s H vs Q E hr h => ?_)
  · obtain ⟨n, v, o, a, t, rfl, _⟩ := h
    rfl
  · obtain ⟨n, v, o, a, t, rfl, hn, h1, hA, hl, hx, hv, q1, q2⟩ := h
    refine ⟨_, pss_cons (ps_expr (pe_call (ok_chkp T) hr (by rfl) T.gChkP T.FChkP.kp T.bChkP .nil (passes_call (takes_of rfl rfl rfl rfl) (fun _ _ _ _ h => h)) (pa_cons (pv 0) (pa_cons (pe_callB (call_lenK K) (by rfl) T.n_len PySem.boot_len (pa_cons (pv 2) pa_nil)) (pa_cons (pv 1) pa_nil))))) (pss_cons (ps_par (i := 3) (j := 4) rfl scNumW.nd rfl rfl (by decide) rfl rfl (pa_cons pe_int (pa_cons (pv 1) pa_nil)) (by rfl)) (pss_cons (ps_set (i := 5) scNumW.nd rfl (.inl rfl) pe_int) (pss_cons (ps_set (i := 6) scNumW.nd rfl (.inl rfl) (pe_listRg rfl (by rfl) T.n_list (prg_1 (by rfl) T.n_range (pv 0)))) (pss_cons (ps_set (i := 7) scNumW.nd rfl (.inl rfl) (pe_callTy0 cr_set0 (by rfl) T.n_set (by decide +kernel))) (pss_cons (ps_for (passes_of rfl) rfl (pi_zipM (by rfl) T.n_zip (pa_cons (pv 2) (pa_cons (pe_call (ok_wid T) hr (by rfl) T.gWid T.FWid.kp T.bWid .nil pass0 (pa_cons (pv 0) (pa_cons (pe_callB (call_lenK K) (by rfl) T.n_len PySem.boot_len (pa_cons (pv 2) pa_nil)) (pa_cons (pv 1) pa_nil)))) pa_nil))) (pg_tup rfl (pgs_cons (pg_name (i := 8) scNumW.nd rfl (.inl rfl)) (pgs_cons (pg_name (i := 9) scNumW.nd rfl (.inl rfl)) pgs_nil))) (pss_cons (ps_if (PW.pt (pw_or (pt_cmpR op_lt (pv 8) pe_int (nomark _)) (pw_or (pt_cmpR op_ge (pv 8) (pv 0) (nomark _)) (pw_or1 (pt_cmpR or_sin (pv 8) (pv 7) (by rfl)))))) (pss_one (ps_ret pe_non)) pss_nil) (pss_cons (ps_expr (pe_sadd (pv 7) (pa_cons (pv 8) pa_nil))) (pss_cons (ps_set (i := 10) scNumW.nd rfl (.inl rfl) (pe_bm PySem.F.plainAttrs_list PySem.F.slot_list_index PySem.F.type_list_index mt_index (pv 6) (pa_cons (pv 8) pa_nil))) (pss_cons (ps_expr (pe_bm PySem.F.plainAttrs_list PySem.F.slot_list_pop PySem.F.type_list_pop mt_popAt (pv 6) (pa_cons (pv 10) pa_nil))) (pss_cons (ps_set (i := 11) scNumW.nd rfl (.inl rfl) (pe_op op_sub (pe_op op_mul (pv 9) (pv 10)) (pv 5))) (C8.pss_cut (ps_if (pt_cmpR op_lt (pv 3) (pv 11) (nomark _)) (pss_one (ps_set (i := 3) scNumW.nd rfl (.inl rfl) (pv 11))) pss_nil) (C8.pss_cut (ps_if (pt_cmpR op_gt (pv 4) (pe_op op_add (pv 11) (pv 9)) (nomark _)) (pss_one (ps_set (i := 4) scNumW.nd rfl (.inl rfl) (pe_op op_add (pv 11) (pv 9)))) pss_nil) (pss_cons (ps_if (pt_cmpR op_ge (pv 3) (pv 4) (nomark _)) (pss_one (ps_ret pe_non)) pss_nil) (pss_one (ps_aug (i := 5) scNumW.nd rfl (.inl rfl) (pe_op op_mul (pv 9) (pe_op op_sub (pe_op op_sub (pv 8) (pv 10)) (pv 10))) ip_add))))))))))) (pss_one (ps_ret (pe_tup (pa_cons (pv 3) (pa_cons (pe_op op_sub (pv 4) (pv 3)) pa_nil)))))))))), ?_⟩
    refine ⟨_, rfl, .ref a, rfl, a, _, rfl, .inr hA, v, rfl, n, t.length, v, o, by rw [setV_len]; rfl, hn, h1, hl, hv, fun hp => ?_, q1⟩
    obtain ⟨c, rfl, st⟩ := poss_std hn h1 hl hp
    obtain ⟨hc, q2, q3⟩ := q2 c rfl st
    obtain rfl : v = .int (c : Int) := by
      rcases hv with ⟨x, e, rfl⟩ | ⟨e, _⟩
      · rw [← Option.some.inj e]
      · cases e
    intro H1 s1
    refine ⟨_, rfl, _, _, rfl, ?_⟩
    refine ⟨_, rfl, _, rfl, .of_le (by omega) (by omega) (by omega) (by omega), fun pl nl => ?_⟩
    rw [setV_range]
    refine ⟨rfl, fun pt nt => ?_⟩
    have s0 := (s1.trans (same_new (o := .lst (setV (List.range' 0 n))) nl)).trans (same_new (o := SetO w pt (fun _ => false) 0) nt)
    have hl0 := same_new (o := SetO w pt (fun _ => false) 0) nt _ _ (upd_same (H := H1) (a := pl) (o := .lst (setV (List.range' 0 n))))
    have ht0 : (upd (upd H1 pl (.lst (setV (List.range' 0 n)))) pt (SetO w pt (fun _ => false) 0)) pt = some (SetO w pt (fun _ => false) 0) := upd_same
    have fl : H pl = none := s1.free nl
    have ft : H pt = none := (s1.trans (same_new (o := .lst (setV (List.range' 0 n))) nl)).free nt
    have hlt : pl ≠ pt := by
      rintro rfl
      rw [upd_same] at nt
      cases nt
    show gName 7 (V.ref pt) _ (upd (upd H1 pl (.lst (setV (List.range' 0 n)))) pt (SetO w pt (fun _ => false) 0)) _
    generalize upd (upd H1 pl (.lst (setV (List.range' 0 n)))) pt (SetO w pt (fun _ => false) 0) = H3 at s0 hl0 ht0 ⊢
    have hA3 := Same.seqT s0 hA
    refine ⟨.ref a, rfl, _, rfl, .ref a, rfl, a, _, rfl, .inr hA3, _, rfl, n, t.length, c, by rw [setV_len]; rfl, hn, h1, hl, fun H4 pw s4 nw hw4 => ?_⟩
    refine ⟨a, pw, setV t, setV (wdsL n c t.length), rfl, Same.seqT (s0.trans s4) hA, SqL.of hw4, ?_⟩
    have npl : pl ≠ pw := by
      rintro rfl
      rw [hl0] at nw
      cases nw
    have npt : pt ≠ pw := by
      rintro rfl
      rw [ht0] at nw
      cases nw
    have fw : H pw = none := s0.free nw
    refine for_it (walk_zipM (K := K) (a := a) (b := pw) (xs := setV t) (ys := setV (wdsL n c t.length)) (n := t.length) (by rw [setV_len, setV_len, wds_len, Nat.min_self])) (fun i σ H2 => ∃ (x : Wst) (S : Int → Bool) (m : Nat) (v8 v9 v10 v11 : Option V), σ = [some (.int n), some (.int c), some (.ref a), some (.int x.lo), some (.int x.hi), some (.int x.mv), some (.ref pl), some (.ref pt), v8, v9, v10, v11] ∧ Same H H2 ∧ H2 pl = some (.lst (setV x.L)) ∧ H2 pt = some (SetO w pt S m) ∧ H2 pw = some (.lst (setV (wdsL n c t.length))) ∧ m ≤ i ∧ (∀ z : Nat, S (z : Int) = true ↔ z ∈ t.take i) ∧ x.L.Nodup ∧ (∀ z, z ∈ x.L ↔ z < n ∧ z ∉ t.take i) ∧ x.L.length ≤ 60 ∧ wRun n c i (t.drop i) x = wRun n c 0 t (w0st n c))
      ⟨w0st n c, fun _ => false, 0, none, none, none, none, rfl, s0.trans s4, s4 _ _ hl0, s4 _ _ ht0, hw4, Nat.le_refl _, fun z => ⟨fun q => (nomatch q), fun q => by simp at q⟩, asc_nodup (asc_range' n 0), fun z => by show z ∈ List.range' 0 n ↔ _; rw [mem_range0]; simp, by show (List.range' 0 n).length ≤ 60; rw [List.length_range']; exact hn, rfl⟩ (fun _ σ H2 _ h => by obtain ⟨_, _, _, _, _, _, _, _, s2, _, _, hw, _⟩ := h; exact ⟨Same.seqT s2 hA, SqL.of hw⟩) ?_ ?_
    · rintro i pr σ H2 H5 hi ⟨x, S, m, v8, v9, v10, v11, rfl, s2, hP, hT, hW, hm, hS, nd, ly, ll, hw⟩ ⟨T0, y, z, rfl, nT, rfl, e1, e2⟩
      have e1 : (setV t)[i]? = some y := e1
      rw [setV_at (List.getElem?_eq_getElem hi)] at e1
      obtain rfl := Option.some.inj e1
      have e2 : (setV (wdsL n c t.length))[i]? = some z := e2
      rw [setV_at (show (wdsL n c t.length)[i]? = some (wd n c i) from by unfold wdsL; rw [List.getElem?_map, List.getElem?_range hi]; rfl)] at e2
      obtain rfl := Option.some.inj e2
      have hsx := hx t[i] (List.getElem_mem hi)
      have htk : t.take (i + 1) = t.take i ++ [t[i]] := by rw [List.take_add_one, List.getElem?_eq_getElem hi]; rfl
      rw [List.drop_eq_getElem_cons hi] at hw
      generalize t[i] = s at hw hsx htk ⊢
      have s3 := s2.trans (same_new (o := .tup [V.int (s : Int), V.int (wd n c i : Nat)]) nT)
      have hP3 := same_new (o := .tup [V.int (s : Int), V.int (wd n c i : Nat)]) nT _ _ hP
      have hT3 := same_new (o := .tup [V.int (s : Int), V.int (wd n c i : Nat)]) nT _ _ hT
      have hW3 := same_new (o := .tup [V.int (s : Int), V.int (wd n c i : Nat)]) nT _ _ hW
      have hw2 : (if s ∈ x.L then (if (wStep n c i s x).hi ≤ (wStep n c i s x).lo then none else wRun n c (i + 1) (t.drop (i + 1)) (wStep n c i s x)) else none) = wRun n c 0 t (w0st n c) := hw
      have hp0 : (upd H2 T0 (.tup [V.int (s : Int), V.int (wd n c i : Nat)])) T0 = some (.tup [V.int (s : Int), V.int (wd n c i : Nat)]) := upd_same
      generalize upd H2 T0 (.tup [V.int (s : Int), V.int (wd n c i : Nat)]) = H6 at s3 hP3 hT3 hW3 hp0 ⊢
      refine ⟨T0, _, rfl, SqT.of hp0, rfl, _, _, rfl, _, _, rfl, rfl, ?_⟩
      have hno : s ∉ x.L → Q .non H6 := fun h9 => by
        rw [if_neg h9] at hw2
        exact q2 hw2.symm _ s3
      refine ⟨_, rfl, _, _, rfl, rfl, _, rfl, ite2 (fun hb => ?_) (fun hb => ?_)⟩
      · have := of_decide_eq_true hb
        omega
      refine ⟨_, rfl, _, rfl, _, _, rfl, rfl, _, rfl, ite2 (fun hb => ?_) (fun hb => ?_)⟩
      · have h9 := of_decide_eq_true hb
        exact iteT (hno fun z => by have := ((ly s).mp z).1; omega)
      have hsn : s < n := by
        have h9 : ¬ ((n : Int) ≤ (s : Int)) := fun z => hb (decide_eq_true z)
        omega
      refine ⟨_, rfl, _, rfl, _, pt, S, m, rfl, rfl, hT3, _, rfl, ite2 (fun hb => ?_) (fun hb => ?_)⟩
      · exact hno fun z => ((ly s).mp z).2 ((hS s).mp hb)
      have hnt : s ∉ t.take i := fun z => hb ((hS s).mpr z)
      have hs : s ∈ x.L := (ly s).mpr ⟨hsn, hnt⟩
      have hil := List.idxOf_lt_length_of_mem hs
      refine ⟨.ref pt, rfl, ⟨pt, S, m, rfl, hT3⟩, _, rfl, pt, _, S, m, rfl, rfl, hT3, by unfold scanBound; omega, ?_⟩
      have s7 := keep_upd (o := SetO w pt (fun j => S j || decide (j = (s : Int))) (if S (s : Int) = true then m else m + 1)) s3 ft
      have hP7 : (upd H6 pt (SetO w pt (fun j => S j || decide (j = (s : Int))) (if S (s : Int) = true then m else m + 1))) pl = some (.lst (setV x.L)) := (upd_ne hlt).trans hP3
      have hW7 : (upd H6 pt (SetO w pt (fun j => S j || decide (j = (s : Int))) (if S (s : Int) = true then m else m + 1))) pw = some (.lst (setV (wdsL n c t.length))) := (upd_ne (Ne.symm npt)).trans hW3
      have hT7 : (upd H6 pt (SetO w pt (fun j => S j || decide (j = (s : Int))) (if S (s : Int) = true then m else m + 1))) pt = some (SetO w pt (fun j => S j || decide (j = (s : Int))) (if S (s : Int) = true then m else m + 1)) := upd_same
      refine ⟨.ref pl, rfl, .inl ⟨rfl, _, SqL.of hP7⟩, _, rfl, pl, _, _, x.L.idxOf s, _, rfl, rfl, SqL.of hP7, rfl, setV_flat _, setV_at (idx_at hs), beq_self_eq_true (s : Int), fun m z hm hz => ?_, ?_⟩
      · obtain ⟨y, hy, rfl⟩ := setV_get hz
        refine beq_eq_false_iff_ne.mpr fun e => ?_
        have e2 : y = s := by omega
        rw [e2] at hy
        have := nodup_inj nd hy (idx_at hs)
        omega
      refine ⟨.ref pl, rfl, .inl ⟨rfl, _, SqL.of hP7⟩, _, rfl, pl, _, _, x.L.idxOf s, _, rfl, rfl, hP7, by omega, by omega, ?_, setV_at (idx_at hs), ?_⟩
      · exact seq_at (by rw [setV_len]; exact hil)
      have eE := erase_setV x.L (x.L.idxOf s)
      have s8 := keep_upd (o := .lst ((setV x.L).eraseIdx (x.L.idxOf s))) s7 fl
      have hP8 : (upd (upd H6 pt (SetO w pt (fun j => S j || decide (j = (s : Int))) (if S (s : Int) = true then m else m + 1))) pl (.lst ((setV x.L).eraseIdx (x.L.idxOf s)))) pl = some (.lst (setV (x.L.eraseIdx (x.L.idxOf s)))) := by rw [upd_same, eE]
      have hT8 := (upd_ne (H := upd H6 pt (SetO w pt (fun j => S j || decide (j = (s : Int))) (if S (s : Int) = true then m else m + 1))) (o := .lst ((setV x.L).eraseIdx (x.L.idxOf s))) (Ne.symm hlt)).trans hT7
      have hW8 := (upd_ne (H := upd H6 pt (SetO w pt (fun j => S j || decide (j = (s : Int))) (if S (s : Int) = true then m else m + 1))) (o := .lst ((setV x.L).eraseIdx (x.L.idxOf s))) (Ne.symm npl)).trans hW7
      refine ⟨_, rfl, _, rfl, _, _, rfl, rfl, .inr ⟨by omega, by omega⟩, _, rfl, _, _, rfl, rfl, ?_⟩
      have elo : (if x.lo < (wd n c i : Int) * (x.L.idxOf s : Int) - x.mv then (wd n c i : Int) * (x.L.idxOf s : Int) - x.mv else x.lo) = (wStep n c i s x).lo := by
        show _ = max x.lo _
        split <;> omega
      have ehi : (if (wd n c i : Int) * (x.L.idxOf s : Int) - x.mv + (wd n c i : Int) < x.hi then (wd n c i : Int) * (x.L.idxOf s : Int) - x.mv + (wd n c i : Int) else x.hi) = (wStep n c i s x).hi := by
        show _ = min x.hi _
        rw [Int.mul_add, Int.mul_one]
        split <;> omega
      refine ⟨fun σ H7 => σ = [some (V.int n), some (V.int c), some (V.ref a), some (V.int (wStep n c i s x).lo), some (V.int x.hi), some (V.int x.mv), some (V.ref pl), some (V.ref pt), some (V.int (s : Int)), some (V.int (wd n c i : Nat)), some (V.int (x.L.idxOf s : Nat)), some (V.int ((wd n c i : Int) * (x.L.idxOf s : Int) - x.mv))] ∧ Same H H7 ∧ H7 pl = some (.lst (setV (x.L.eraseIdx (x.L.idxOf s)))) ∧ H7 pt = some (SetO w pt (fun j => S j || decide (j = (s : Int))) (if S (s : Int) = true then m else m + 1)) ∧ H7 pw = some (.lst (setV (wdsL n c t.length))), ?_, ?_⟩
      · refine ⟨_, rfl, _, rfl, _, _, rfl, rfl, _, rfl, ite2 (fun hb => ?_) (fun hb => ?_)⟩
        · have h9 : x.lo < (wd n c i : Int) * (x.L.idxOf s : Int) - x.mv := of_decide_eq_true hb
          rw [if_pos h9] at elo
          refine ⟨_, rfl, ?_, s8, hP8, hT8, hW8⟩
          rw [← elo]
          rfl
        · have h9 : ¬ x.lo < (wd n c i : Int) * (x.L.idxOf s : Int) - x.mv := fun z => hb (decide_eq_true z)
          rw [if_neg h9] at elo
          refine ⟨?_, s8, hP8, hT8, hW8⟩
          rw [← elo]
          rfl
      clear s8 hP8 hT8 hW8 s7 hP7 hT7 hW7
      rintro σ H7 ⟨rfl, s7, hP7, hT7, hW7⟩
      refine ⟨fun σ H7 => σ = [some (V.int n), some (V.int c), some (V.ref a), some (V.int (wStep n c i s x).lo), some (V.int (wStep n c i s x).hi), some (V.int x.mv), some (V.ref pl), some (V.ref pt), some (V.int (s : Int)), some (V.int (wd n c i : Nat)), some (V.int (x.L.idxOf s : Nat)), some (V.int ((wd n c i : Int) * (x.L.idxOf s : Int) - x.mv))] ∧ Same H H7 ∧ H7 pl = some (.lst (setV (x.L.eraseIdx (x.L.idxOf s)))) ∧ H7 pt = some (SetO w pt (fun j => S j || decide (j = (s : Int))) (if S (s : Int) = true then m else m + 1)) ∧ H7 pw = some (.lst (setV (wdsL n c t.length))), ?_, ?_⟩
      · refine ⟨_, rfl, _, rfl, _, rfl, _, _, rfl, rfl, _, _, rfl, rfl, _, rfl, ite2 (fun hb => ?_) (fun hb => ?_)⟩
        · have h9 : (wd n c i : Int) * (x.L.idxOf s : Int) - x.mv + (wd n c i : Int) < x.hi := of_decide_eq_true hb
          rw [if_pos h9] at ehi
          refine ⟨_, rfl, _, rfl, _, _, rfl, rfl, ?_, s7, hP7, hT7, hW7⟩
          rw [← ehi]
          rfl
        · have h9 : ¬ (wd n c i : Int) * (x.L.idxOf s : Int) - x.mv + (wd n c i : Int) < x.hi := fun z => hb (decide_eq_true z)
          rw [if_neg h9] at ehi
          exact ⟨by rw [← ehi], s7, hP7, hT7, hW7⟩
      clear s7 hP7 hT7 hW7
      rintro σ H7 ⟨rfl, s7, hP7, hT7, hW7⟩
      rw [if_pos hs] at hw2
      refine ⟨_, rfl, _, rfl, _, _, rfl, rfl, _, rfl, ite2 (fun hb2 => ?_) (fun hb2 => ?_)⟩
      · have h9 : (wStep n c i s x).hi ≤ (wStep n c i s x).lo := of_decide_eq_true hb2
        rw [if_pos h9] at hw2
        exact q2 hw2.symm _ s7
      · have h9 : ¬ (wStep n c i s x).hi ≤ (wStep n c i s x).lo := fun z => hb2 (decide_eq_true z)
        rw [if_neg h9] at hw2
        refine ⟨_, rfl, _, rfl, _, rfl, _, rfl, _, _, rfl, rfl, _, rfl, _, _, rfl, rfl, _, _, rfl, rfl, .inr ⟨by omega, by omega⟩, _, _, rfl, rfl, ?_⟩
        refine ⟨wStep n c i s x, _, _, some (.int (s : Int)), some (.int (wd n c i : Nat)), some (.int (x.L.idxOf s : Nat)), _, rfl, s7, hP7, hT7, hW7, by split <;> omega, fun z => ?_, nd.sublist (List.eraseIdx_sublist _ _), fun z => ?_, ?_, hw2⟩
        · show (S (z : Int) || decide ((z : Int) = (s : Int))) = true ↔ _
          rw [htk, List.mem_append, List.mem_singleton, Bool.or_eq_true, hS z, decide_eq_true_iff]
          constructor
          · rintro (h | h)
            · exact .inl h
            · exact .inr (by omega)
          · rintro (h | h)
            · exact .inl h
            · exact .inr (by omega)
        · show z ∈ x.L.eraseIdx (x.L.idxOf s) ↔ _
          rw [mem_erase_iff nd (idx_at hs), ly z, htk, List.mem_append, List.mem_singleton, and_assoc, not_or]
        · show (x.L.eraseIdx _).length ≤ 60
          rw [List.length_eraseIdx]
          split <;> omega
    · rintro σ H2 ⟨x, S, m, v8, v9, v10, v11, rfl, s2, hP, hT, hW, hm, hS, nd, ly, ll, hw⟩
      rw [List.drop_length] at hw
      refine ⟨_, rfl, _, rfl, _, rfl, _, _, rfl, rfl, by show 2 ≤ sizeLine; decide, fun u nu => ?_⟩
      exact q3 x hw.symm _ u (s2.trans (same_new nu)) (s2.free nu) upd_same
end
theorem spNumW_ok {K : PySem.W.Frag} {CP : Addr} {n c : Nat} {a : Addr} {t : List Nat} {H : Hp} {Q : VK} {E : XK} (st : Std n t.length c) (hc : c < 2 ^ 500) (hA : SqT K H a (setV t)) (hx : ∀ x ∈ t, x < 60)
    (q1 : wRun n c 0 t (w0st n c) = none → ∀ H', Same H H' → Q .non H') (q2 : ∀ y, wRun n c 0 t (w0st n c) = some y → ∀ H' u, Same H H' → H u = none → H' u = some (.tup [.int y.lo, .int (y.hi - y.lo)]) → Q (.ref u) H') : spNumW K CP [.int n, .int c, .ref a] H Q E := by
  refine ⟨n, .int c, some c, a, t, rfl, st.n60, st.n1, hA, st.dn, hx, .inl ⟨c, rfl, rfl⟩, fun h => ?_, fun c' e st' => ?_⟩
  · rw [std_poss st] at h
    cases h
  · have e2 := Option.some.inj e
    obtain rfl : c = c' := by omega
    exact ⟨hc, q1, q2⟩
/-! ### the law's pot of drawn numbers -/
def PotAt (H : Hp) (p : Addr) (m : Nat) : Prop := ∃ a b c : Int, H p = some (.lst [.int a, .int b, .int c]) ∧ (0 ≤ a ∧ a < 10 ^ 300) ∧ (0 ≤ b ∧ b < 2305843009213693951) ∧ 0 ≤ c ∧ c ≤ (m : Int)
theorem PotAt.mono {H : Hp} {p : Addr} {m n : Nat} (h : PotAt H p m) (l : m ≤ n) : PotAt H p n := by
  obtain ⟨a, b, c, h1, h2, h3, h4, h5⟩ := h
  exact ⟨a, b, c, h1, h2, h3, h4, by omega⟩
theorem PotAt.same {H H' : Hp} {p : Addr} {m : Nat} (h : PotAt H p m) (s : Same H H') : PotAt H' p m := by
  obtain ⟨a, b, c, h1, h2⟩ := h
  exact ⟨a, b, c, s _ _ h1, h2⟩
theorem PotAt.ne {H : Hp} {p q : Addr} {m : Nat} (h : PotAt H p m) (n : H q = none) : p ≠ q := by
  obtain ⟨a, b, c, h1, _⟩ := h
  exact ne_of_none h1 n
def spPot (K : PySem.W.Frag) : Sp := fun vs H Q _ => ∃ (a : Addr) (ns : List Int) (i : Nat), vs = [.ref a, .int i] ∧ SqL K H a (ns.map V.int) ∧ i ≤ 100 ∧ ∀ H' p, Same H H' → H p = none → PotAt H' p 0 → Q (.ref p) H'
def spTake : Sp := fun vs H Q _ => ∃ (p : Addr) (m : Nat) (u : Int), vs = [.ref p, .int u] ∧ PotAt H p m ∧ m ≤ 1000000 ∧ 1 ≤ u ∧ u < 2 ^ 1000 ∧
  ∀ (r : Int) (H' : Hp), 0 ≤ r → r < u → PotAt H' p (m + 1) → But p H H' → Q (.int r) H'
theorem own_ok (x : Int) (c : Bool) : 0 ≤ x % ((10 : Int) ^ (60 : Int).toNat) ^ (5 : Int).toNat * (if c then 1 else 0) ∧ x % ((10 : Int) ^ (60 : Int).toNat) ^ (5 : Int).toNat * (if c then 1 else 0) < 10 ^ 300 := by
  have e : ((10 : Int) ^ (60 : Int).toNat) ^ (5 : Int).toNat = 10 ^ 300 := by decide +kernel
  rw [e]
  have h1 := Int.emod_nonneg x (show (10 : Int) ^ 300 ≠ 0 by decide +kernel)
  have h2 := Int.emod_lt_of_pos x (show (0 : Int) < 10 ^ 300 by decide +kernel)
  cases c with
  | true =>
    rw [if_pos rfl, Int.mul_one]
    exact ⟨h1, h2⟩
  | false =>
    rw [if_neg (by decide), Int.mul_zero]
    exact ⟨Int.le_refl _, by decide +kernel⟩
theorem big_pos : (0 : Int) < ((10 : Int) ^ (60 : Int).toNat) ^ (5 : Int).toNat := by decide +kernel
theorem bit_in (c : Bool) : -(2 ^ 64) < (if c then (1 : Int) else 0) ∧ (if c then (1 : Int) else 0) < 2 ^ 64 := by
  cases c <;> decide
theorem prime_at (i : Int) (h0 : 0 ≤ i) (h5 : i < 5) : ∃ v : Int, atI [V.int 2147483647, V.int 2147483629, V.int 2147483587, V.int 2147483579, V.int 2147483563] i = some (.int v) ∧ 0 < v ∧ v < 2 ^ 32 := by
  have h : i = 0 ∨ i = 1 ∨ i = 2 ∨ i = 3 ∨ i = 4 := by omega
  rcases h with rfl | rfl | rfl | rfl | rfl
  · exact ⟨2147483647, rfl, by decide, by decide⟩
  · exact ⟨2147483629, rfl, by decide, by decide⟩
  · exact ⟨2147483587, rfl, by decide, by decide⟩
  · exact ⟨2147483579, rfl, by decide, by decide⟩
  · exact ⟨2147483563, rfl, by decide, by decide⟩
section
variable {P : Program} {w : World} {K : PySem.W.Frag} {mg : Str → Option Value} {base : Heap}
theorem ok_pot (T : Txt K mg) {j : Nat} : FnOk P w K mg base CX0 (j + 1) T.fPot T.fdPot ["_law_script", "_law_spot"] (spPot K) := by
  refine T.FPot.ok scPot (fun vs H Q E h => ?_) (fun cdv A outer s H vs Q E hr h => ?_)
  · obtain ⟨a, ns, i, rfl, _⟩ := h
    rfl
  · obtain ⟨a, ns, i, rfl, hS, hi, q⟩ := h
    refine ⟨_, pss_cons (ps_set (i := 2) scPot.nd rfl (.inl rfl) (pe_ifExp (pt_cmpR op_lt (pv 1) (pe_callB call_len_seq (by rfl) T.n_len PySem.boot_len (pa_cons (pv 0) pa_nil)) (nomark _)) (pe_ix ix_list (pv 0) (pv 1) (fun _ _ => rfl)) (pe_op op_add pe_int (pv 1))))
      (pss_cons (ps_set (i := 3) scPot.nd rfl (.inl rfl) (pe_op op_mul (pe_op op_mod (pe_callB call_abs (by rfl) T.n_abs (by decide +kernel) (pa_cons (pv 2) pa_nil)) (pe_op op_powB (pe_op op_pow pe_int pe_int) pe_int))
        (pe_callTy call_int1 (by rfl) T.n_int (by decide +kernel) (pa_cons (pe_cmpR op_ge (pe_callB call_abs (by rfl) T.n_abs (by decide +kernel) (pa_cons (pv 2) pa_nil)) (pe_op op_pow pe_int pe_int) (nomark _)) pa_nil))))
      (pss_one (ps_ret (pe_lst (pa_cons (pv 3) (pa_cons (pe_op op_mod (pe_op op_add (pe_op op_add (pe_op op_mul (pe_op op_mod (pv 2) pe_int) pe_int) (pe_op op_mul (pe_op op_mul pe_int (pv 1)) (pv 1))) pe_int) pe_int) (pa_cons pe_int pa_nil))))))), ?_⟩
    refine ⟨_, rfl, .ref a, rfl, a, _, rfl, .inl hS, _, _, rfl, rfl, _, rfl, ite2 (fun h1 => ?_) (fun h1 => ?_)⟩
    · have hlt : i < ns.length := by
        have h2 := of_decide_eq_true h1
        rw [List.length_map] at h2
        omega
      refine ⟨.ref a, rfl, _, rfl, a, _, _, _, rfl, rfl, hS, atI_nat (v := V.int ns[i]) (by rw [List.getElem?_map, List.getElem?_eq_getElem hlt]; rfl), ?_⟩
      refine ⟨_, rfl, _, rfl, _, _, rfl, rfl, ⟨by decide, by decide, by decide⟩, _, _, rfl, rfl, ⟨by decide, by decide +kernel⟩, _, _, rfl, rfl, big_pos, _, rfl, _, rfl, _, _, rfl, rfl, ⟨by decide, by decide, by decide⟩, _, _, rfl, rfl, .inr ⟨_, rfl, _, _, rfl, rfl, .inr (bit_in _), ?_⟩⟩
      refine ⟨_, rfl, _, rfl, _, _, rfl, rfl, (show (0 : Int) < 2305843009213693951 by decide), _, _, rfl, rfl, .inr ⟨by decide, by decide⟩, _, rfl, _, _, rfl, rfl, .inl ⟨by decide, by decide⟩, _, rfl, _, _, rfl, rfl, .inr ⟨by omega, by omega⟩, _, _, rfl, rfl, _, _, rfl, rfl, _, _, rfl, rfl, (show (0 : Int) < 2305843009213693921 by decide), ?_⟩
      refine ⟨by show 3 ≤ sizeLine; decide, fun p np => ?_⟩
      refine q _ p (same_new np) np ⟨_, _, 0, upd_same, own_ok _ _, ⟨Int.emod_nonneg _ (by decide), Int.lt_trans (Int.emod_lt_of_pos _ (by decide)) (by decide)⟩, Int.le_refl _, Int.le_refl _⟩
    · refine ⟨_, rfl, _, _, rfl, rfl, ?_⟩
      refine ⟨_, rfl, _, rfl, _, _, rfl, rfl, ⟨by decide, by decide, by decide⟩, _, _, rfl, rfl, ⟨by decide, by decide +kernel⟩, _, _, rfl, rfl, big_pos, _, rfl, _, rfl, _, _, rfl, rfl, ⟨by decide, by decide, by decide⟩, _, _, rfl, rfl, .inr ⟨_, rfl, _, _, rfl, rfl, .inr (bit_in _), ?_⟩⟩
      refine ⟨_, rfl, _, rfl, _, _, rfl, rfl, (show (0 : Int) < 2305843009213693951 by decide), _, _, rfl, rfl, .inr ⟨by decide, by decide⟩, _, rfl, _, _, rfl, rfl, .inl ⟨by decide, by decide⟩, _, rfl, _, _, rfl, rfl, .inr ⟨by omega, by omega⟩, _, _, rfl, rfl, _, _, rfl, rfl, _, _, rfl, rfl, (show (0 : Int) < 2305843009213693921 by decide), ?_⟩
      refine ⟨by show 3 ≤ sizeLine; decide, fun p np => ?_⟩
      refine q _ p (same_new np) np ⟨_, _, 0, upd_same, own_ok _ _, ⟨Int.emod_nonneg _ (by decide), Int.lt_trans (Int.emod_lt_of_pos _ (by decide)) (by decide)⟩, Int.le_refl _, Int.le_refl _⟩
theorem ok_take (T : Txt K mg) {j : Nat} : FnOk P w K mg base CX0 (j + 1) T.fTake T.fdTake ["_law_pot_here", "_law_upto"] spTake := by
  refine T.FTake.ok scTake (fun vs H Q E h => ?_) (fun cdv A outer s H vs Q E hr h => ?_)
  · obtain ⟨p, m, u, rfl, _⟩ := h
    rfl
  · obtain ⟨p, m, u, rfl, ⟨a, b, c, hp, ha, hb, hc0, hcm⟩, hm, hu1, hu2, q⟩ := h
    refine ⟨_, pss_cons (ps_if (pt_cmpR op_gt (pe_ix ix_list (pv 0) pe_int (fun _ _ => rfl)) pe_int (nomark _))
        (pss_cons (ps_set (i := 2) scTake.nd rfl (.inl rfl) (pe_op op_mod (pe_ix ix_list (pv 0) pe_int (fun _ _ => rfl)) (pv 1)))
        (pss_cons (ps_asg (pe_op op_fdivW (pe_ix ix_list (pv 0) pe_int (fun _ _ => rfl)) (pv 1)) (pg_sub (pv 0) pe_int set_list))
        (pss_one (ps_ret (pv 2))))) pss_nil)
      (pss_cons (ps_asg (pe_op op_add (pe_ix ix_list (pv 0) pe_int (fun _ _ => rfl)) pe_int) (pg_sub (pv 0) pe_int set_list))
      (pss_cons (ps_set (i := 3) scTake.nd rfl (.inl rfl) (pe_ix ix_list (pe_lst (pa_cons pe_int (pa_cons pe_int (pa_cons pe_int (pa_cons pe_int (pa_cons pe_int pa_nil)))))) (pe_op op_mod (pe_ix ix_list (pv 0) pe_int (fun _ _ => rfl)) pe_int) (fun _ _ => rfl)))
      (pss_cons (ps_set (i := 4) scTake.nd rfl (.inl rfl) (pe_op op_mod (pe_op op_pow (pe_op op_add (pe_ix ix_list (pv 0) pe_int (fun _ _ => rfl)) (pe_op op_mul pe_int (pe_ix ix_list (pv 0) pe_int (fun _ _ => rfl)))) pe_int) (pv 3)))
      (pss_one (ps_ret (pe_op op_mod (pe_op op_fdiv (pe_op op_mod (pe_op op_mul (pv 4) (pe_op op_add (pe_op op_mod (pv 4) pe_int) (pe_ix ix_list (pv 0) pe_int (fun _ _ => rfl)))) (pv 3)) pe_int) (pv 1))))))), ?_⟩
    refine ⟨.ref p, rfl, p, _, _, _, rfl, rfl, SqL.of hp, rfl, _, _, rfl, rfl, _, rfl, ite2 (fun h1 => ?_) (fun h1 => ?_)⟩
    · have h0 : 0 < a := of_decide_eq_true h1
      refine ⟨.ref p, rfl, p, _, _, _, rfl, rfl, SqL.of hp, rfl, _, rfl, _, _, rfl, rfl, by omega, ?_⟩
      refine ⟨.ref p, rfl, p, _, _, _, rfl, rfl, SqL.of hp, rfl, _, rfl, _, _, rfl, rfl, wide_div (b := 1000) (by omega) (by omega) (by decide) (by decide), ?_⟩
      refine ⟨.ref p, rfl, p, _, _, 0, rfl, rfl, hp, rfl, ?_⟩
      refine ⟨_, rfl, q _ _ (Int.emod_nonneg _ (by omega)) (Int.emod_lt_of_pos _ (by omega)) ⟨a / u, b, c, upd_same, ?_, hb, hc0, by omega⟩ (But.refl p H).upd⟩
      have h3 : a / u ≤ a := Int.ediv_le_self _ (by omega)
      exact ⟨Int.ediv_nonneg (by omega) (by omega), by omega⟩
    · refine ⟨.ref p, rfl, p, _, _, _, rfl, rfl, SqL.of hp, rfl, _, _, rfl, rfl, .ref p, rfl, p, _, _, 2, rfl, rfl, hp, rfl, ?_⟩
      have hp2 : (upd H p (.lst [V.int a, V.int b, V.int (c + 1)])) p = some (.lst [V.int a, V.int b, V.int (c + 1)]) := upd_same
      obtain ⟨v, ev, v0, v32⟩ := prime_at ((c + 1) % 5) (Int.emod_nonneg _ (by decide)) (Int.emod_lt_of_pos _ (by decide))
      refine ⟨by decide, fun l nl => ?_⟩
      have npl : p ≠ l := ne_of_none hp2 nl
      have hp3 : (upd (upd H p (.lst [V.int a, V.int b, V.int (c + 1)])) l (.lst [V.int 2147483647, V.int 2147483629, V.int 2147483587, V.int 2147483579, V.int 2147483563])) p = some (.lst [V.int a, V.int b, V.int (c + 1)]) := by
        rw [upd_ne npl]
        exact hp2
      refine ⟨.ref p, rfl, p, _, _, _, rfl, rfl, SqL.of hp3, rfl, _, _, rfl, rfl, (show (0 : Int) < 5 by decide), l, _, _, _, rfl, rfl, SqL.of upd_same, ev, ?_⟩
      refine ⟨.ref p, rfl, p, _, _, _, rfl, rfl, SqL.of hp3, rfl, .ref p, rfl, p, _, _, _, rfl, rfl, SqL.of hp3, rfl, _, _, rfl, rfl, .inl ⟨by decide, by decide⟩, _, _, rfl, rfl, _, _, rfl, rfl, ⟨by decide, by decide, ?_⟩, _, rfl, _, _, rfl, rfl, v0, ?_⟩
      · have : (b + 7919 * (c + 1)).natAbs < 2 ^ 64 := by omega
        exact this
      · refine ⟨_, rfl, _, rfl, _, _, rfl, rfl, (show (0 : Int) < 1013 by decide), .ref p, rfl, p, _, _, _, rfl, rfl, SqL.of hp3, rfl, _, _, rfl, rfl, _, _, rfl, rfl, .inl ?_, _, rfl, _, _, rfl, rfl, v0, _, _, rfl, rfl, ⟨by decide, by decide⟩, _, rfl, _, _, rfl, rfl, by omega, ?_⟩
        · have h3 := Int.emod_nonneg ((b + 7919 * (c + 1)) ^ (3 : Int).toNat) (show v ≠ 0 by omega)
          have h4 := Int.emod_lt_of_pos ((b + 7919 * (c + 1)) ^ (3 : Int).toNat) v0
          exact ⟨by omega, by omega⟩
        · refine q _ _ (Int.emod_nonneg _ (by omega)) (Int.emod_lt_of_pos _ (by omega)) ⟨a, b, c + 1, hp3, ha, hb, by omega, by omega⟩ ?_
          exact (But.refl p H).upd.same (same_new nl)
end
/-! ### one of some -/
def spOf : Sp := fun vs H Q _ => ∃ (p : Addr) (m : Nat) (l : Addr) (xs : List V), vs = [.ref p, .ref l] ∧ PotAt H p m ∧ m ≤ 1000000 ∧ H l = some (.lst xs) ∧ l ≠ p ∧ 1 ≤ xs.length ∧ xs.length ≤ 1000 ∧
  ∀ (v : V) (H' : Hp), v ∈ xs → PotAt H' p (m + 1) → But p H H' → Q v H'
theorem pick_at {xs : List V} {r : Int} (h0 : 0 ≤ r) (hl : r < (xs.length : Int)) : ∃ v, v ∈ xs ∧ atI xs r = some v := by
  obtain ⟨k, rfl⟩ := Int.eq_ofNat_of_zero_le h0
  have hk : k < xs.length := by omega
  exact ⟨xs[k], List.getElem_mem hk, atI_nat (List.getElem?_eq_getElem hk)⟩
section
variable {P : Program} {w : World} {K : PySem.W.Frag} {mg : Str → Option Value} {base : Heap}
theorem ok_of (T : Txt K mg) {j : Nat} : FnOk P w K mg base CX0 (j + 2) T.fOf T.fdOf ["_law_pot_here", "_law_some"] spOf := by
  refine T.FOf.ok scOf (fun vs H Q E h => ?_) (fun cdv A outer s H vs Q E hr h => ?_)
  · obtain ⟨p, m, l, xs, rfl, _⟩ := h
    rfl
  · obtain ⟨p, m, l, xs, rfl, P0, hm, hl, hne, h1, h2, q⟩ := h
    refine ⟨_, pss_one (ps_ret (pe_ix ix_list (pv 1) (pe_call (ok_take T) hr (by rfl) T.gTake T.FTake.kp T.bTake .nil pass0 (pa_cons (pv 0) (pa_cons (pe_callB call_len_seq (by rfl) T.n_len PySem.boot_len (pa_cons (pv 1) pa_nil)) pa_nil))) (fun _ _ => rfl))), ?_⟩
    refine ⟨.ref l, rfl, .ref p, rfl, .ref l, rfl, l, _, rfl, .inl (SqL.of hl), p, m, _, rfl, P0, hm, by omega, ?_, fun r H' r0 rl P1 B1 => ?_⟩
    · exact Int.lt_trans (show (xs.length : Int) < 1001 by omega) (by decide +kernel)
    · obtain ⟨v, hv, ev⟩ := pick_at r0 rl
      exact ⟨l, xs, r, v, rfl, rfl, SqL.of (B1 _ _ hne hl), ev, q v H' hv P1 B1⟩
end
/-! ### the law's rows: Pascal's triangle as lists -/
def rowV (i : Nat) : List V := (List.range 61).map fun j => V.int (C i j)
theorem rowV_at (i : Nat) {j : Nat} (h : j < 61) : (rowV i)[j]? = some (V.int (C i j)) := by
  unfold rowV
  rw [List.getElem?_map, List.getElem?_range h]
  rfl
theorem rowV_zero : rowV 0 = [V.int 1] ++ (List.replicate (60 : Int).toNat [V.int 0]).flatten := by decide +kernel
theorem rowV_succ (i : Nat) : rowV (i + 1) = [V.int 1] ++ (List.range 60).map fun j => V.int (C (i + 1) (j + 1)) := by
  unfold rowV
  rw [List.range_succ_eq_map, List.map_cons, List.map_map, C_zero]
  rfl
theorem rowV_ne (i : Nat) (rs : List Addr) (h : rowV i = rs.map V.ref) : False := by
  have h1 := rowV_at i (show 0 < 61 by decide)
  rw [h, List.getElem?_map] at h1
  cases e : rs[0]? with
  | none =>
    rw [e] at h1
    cases h1
  | some r =>
    rw [e] at h1
    cases h1
structure RowsAt (H : Hp) (p : Addr) (rs : List Addr) : Prop where
  at_p : H p = some (.lst (rs.map V.ref))
  row : ∀ i r, rs[i]? = some r → H r = some (.lst (rowV i))
def spRows : Sp := fun vs H Q _ => vs = [] ∧ ∀ H' p rs, Same H H' → H p = none → rs.length = 61 → RowsAt H' p rs → Q (.ref p) H'
theorem map_last {rs : List Addr} {k : Nat} (h : rs.length = k + 1) : ∃ r, rs[k]? = some r ∧ atI (rs.map V.ref) (-1) = some (.ref r) := by
  have h1 : rs ≠ [] := fun z => by
    rw [z] at h
    cases h
  refine ⟨rs.getLast h1, ?_, ?_⟩
  · have e : rs.length - 1 = k := by omega
    rw [List.getLast_eq_getElem h1, ← List.getElem?_eq_getElem]
    rw [e]
  · have hz : rs.map V.ref = rs.dropLast.map V.ref ++ [V.ref (rs.getLast h1)] := by
      rw [← List.map_singleton, ← List.map_append, List.dropLast_concat_getLast]
    rw [hz]
    exact atI_last _ _
def WRows (H : Hp) (p : Addr) (m : Nat) (σ : L2.St) (H' : Hp) : Prop := ∃ rs v, σ = [some (.ref p), v, none] ∧ Same H H' ∧ m + rs.length = 61 ∧ 1 ≤ rs.length ∧ RowsAt H' p rs
section
variable {P : Program} {w : World} {K : PySem.W.Frag} {mg : Str → Option Value} {base : Heap}
theorem ok_rows (T : Txt K mg) {j : Nat} : FnOk P w K mg base CX0 (j + 1) T.fRows T.fdRows [] spRows := by
  refine T.FRows.ok scRows (fun vs H Q E h => ?_) (fun cdv A outer s H vs Q E hr h => ?_)
  · obtain ⟨rfl, _⟩ := h
    rfl
  · obtain ⟨rfl, q⟩ := h
    refine ⟨_, pss_cons (ps_set (i := 0) scRows.nd rfl (.inl rfl) (pe_lst (pa_cons (pe_op op_cat (pe_lst (pa_cons pe_int pa_nil)) (pe_op op_rep (pe_lst (pa_cons pe_int pa_nil)) pe_int)) pa_nil)))
      (pss_cons (ps_while PassesOwn.never (pt_cmpR op_lt (pe_callB call_len_seq (by rfl) T.n_len PySem.boot_len (pa_cons (pv 0) pa_nil)) pe_int (nomark _))
        (pss_cons (ps_set (i := 1) scRows.nd rfl (.inr rfl) (pe_ix ix_list (pv 0) (pe_un un_neg pe_int) (fun _ _ => rfl)))
        (pss_one (ps_expr (pe_bm PySem.F.plainAttrs_list PySem.F.slot_list_append PySem.F.type_list_append mt_append (pv 0) (pa_cons (pe_op op_cat (pe_lst (pa_cons pe_int pa_nil))
          (pe_lc (own := [("_law_at", 2)]) (g := gName 2) (tt := tYes) rfl scRows.nd (pi_range2 (by rfl) T.n_range (pa_cons pe_int (pa_cons pe_int pa_nil)))
            (blkOk_by (own := [("_law_at", 2)]) (N := ["_law_rows_here", "_law_last", "_law_at"]) (sc := defScope sRows) (by decide +kernel))
            (fun _ _ _ _ _ => pg_name (i := 2) scRows.nd rfl (Or.inl rfl)) (fun _ _ _ _ _ => pts_nil)
            (fun _ _ _ _ _ => pe_op op_add (pe_ix (r := rIxL K) ix_list (pv 1) (pv 2) (fun _ _ => rfl)) (pe_ix (r := rIxL K) ix_list (pv 1) (pe_op op_sub (pv 2) pe_int) (fun _ _ => rfl))))) pa_nil))))))
      (pss_one (ps_ret (pv 0)))), ?_⟩
    -- the first row
    refine ⟨by decide, fun p1 n1 => ⟨by decide, fun p2 n2 => ⟨p2, 60, _, rfl, rfl, upd_same, by decide, by decide, by decide, fun p3 n3 => ⟨p1, p3, [V.int 1], _, rfl, rfl, ?_, upd_same, by decide, fun p4 n4 => ⟨(by show 1 ≤ sizeLine; decide), fun p5 n5 => ?_⟩⟩⟩⟩⟩
    · rw [upd_ne (ne_of_none (by rw [upd_ne (ne_of_none upd_same n2)]; exact upd_same) n3), upd_ne (ne_of_none upd_same n2)]
      exact upd_same
    · have s1 := same_new (o := .lst [V.int 1]) n1
      have s2 := s1.trans (same_new (o := .lst [V.int 0]) n2)
      have s3 := s2.trans (same_new (o := .lst (List.replicate (60 : Int).toNat [V.int 0]).flatten) n3)
      have s4 := s3.trans (same_new (o := .lst ([V.int 1] ++ (List.replicate (60 : Int).toNat [V.int 0]).flatten)) n4)
      have f5 := s4.free n5
      refine ⟨WRows H p5, ⟨60, [p4], none, rfl, s4.trans (same_new n5), rfl, Nat.le_refl _, upd_same, ?_⟩, fun m σ H6 hW => ?_⟩
      · intro i r e
        cases i with
        | succ i => cases e
        | zero =>
          obtain rfl : p4 = r := Option.some.inj e
          rw [upd_ne (ne_of_none upd_same n5), rowV_zero]
          exact upd_same
      · obtain ⟨rs, v, rfl, s6, hm, h1, R⟩ := hW
        refine ⟨_, rfl, p5, _, rfl, .inl (SqL.of R.at_p), _, _, rfl, rfl, _, rfl, ite2 (fun hb => ?_) (fun hb => ?_)⟩
        · have hlt : rs.length < 61 := by
            have := of_decide_eq_true hb
            rw [List.length_map] at this
            omega
          refine ⟨WRows H p5 (m - 1), fun σ' H' h => ⟨m - 1, by omega, h⟩, ?_⟩
          obtain ⟨k, hk⟩ : ∃ k, rs.length = k + 1 := ⟨rs.length - 1, by omega⟩
          obtain ⟨r, er, el⟩ := map_last hk
          have hrow := R.row k r er
          -- last = rows[-1]
          refine ⟨.ref p5, rfl, 1, rfl, p5, _, -1, _, rfl, rfl, SqL.of R.at_p, el, ?_⟩
          -- rows.append([1] + [..])
          refine ⟨.ref p5, rfl, .inl ⟨rfl, _, SqL.of R.at_p⟩, by decide, fun q1 m1 => ?_⟩
          have t1 := same_new (o := .lst [V.int 1]) m1
          refine ⟨1, 61, rfl, ⟨by decide, by decide, by decide, by decide⟩, fun D nD => ?_⟩
          refine lc_range (lo := 1) (n := 60) (fun i H7 => Same (upd H6 q1 (.lst [V.int 1])) H7 ∧ H7 D = some (.lst ((List.range i).map fun j => V.int (C (k + 1) (j + 1))))) ⟨same_new nD, upd_same⟩ ?_ ?_
          · rintro i H7 hi ⟨s7, hD⟩
            have hr7 := s7 _ _ (t1 _ _ hrow)
            have e1 : (1 + (i : Int)) = ((i + 1 : Nat) : Int) := by omega
            have a1 : atI (rowV k) (1 + (i : Int)) = some (V.int (C k (i + 1))) := by
              rw [e1]
              exact atI_nat (rowV_at k (by omega))
            have a2 : atI (rowV k) (1 + (i : Int) - 1) = some (V.int (C k i)) := by
              rw [show (1 + (i : Int) - 1) = (i : Int) by omega]
              exact atI_nat (rowV_at k (by omega))
            refine ⟨rfl, .ref r, rfl, _, rfl, r, _, _, _, rfl, rfl, SqL.of hr7, a1, .ref r, rfl, _, rfl, _, _, rfl, rfl, r, _, _, _, rfl, rfl, SqL.of hr7, a2, _, _, rfl, rfl, _, hD, ?_, keep_upd s7 nD, ?_⟩
            · rw [List.length_map, List.length_range]
              exact small1000 (by omega)
            · rw [upd_same, List.range_succ, List.map_append]
              show some (HO.lst (_ ++ [V.int ((C k (i + 1) : Int) + (C k i : Int))])) = some (HO.lst (_ ++ [V.int ((C k i + C k (i + 1) : Nat) : Int)]))
              rw [Int.natCast_add, Int.add_comm]
          · rintro H7 ⟨s7, hD⟩
            refine ⟨q1, D, _, _, rfl, rfl, s7 _ _ upd_same, hD, by rw [List.length_map, List.length_range]; decide, fun p7 n7 => ?_⟩
            have t7 := t1.trans (s7.trans (same_new (o := .lst ([V.int 1] ++ (List.range 60).map fun j => V.int (C (k + 1) (j + 1)))) n7))
            refine ⟨p5, _, _, rfl, rfl, t7 _ _ R.at_p, ?_, ?_⟩
            · rw [List.length_map]
              exact small1000 (by omega)
            · have n75 : p7 ≠ p5 := fun z => by
                rw [z, s7 _ _ (t1 _ _ R.at_p)] at n7
                cases n7
              refine ⟨rs ++ [p7], some (.ref r), rfl, keep_upd (s6.trans t7) f5, by rw [List.length_append]; show m - 1 + (rs.length + 1) = 61; omega, by rw [List.length_append]; omega, ?_, ?_⟩
              · rw [upd_same, List.map_append]
                rfl
              · intro i x e
                by_cases hi : i < rs.length
                · rw [List.getElem?_append_left hi] at e
                  have hx := R.row i x e
                  have nx : x ≠ p5 := fun z => by
                    have h9 := R.at_p
                    rw [← z, hx] at h9
                    injection h9 with h9
                    injection h9 with h9
                    exact rowV_ne i rs h9
                  rw [upd_ne nx]
                  exact t7 _ _ hx
                · have ei : i = rs.length := by
                    have := (List.getElem?_eq_some_iff.mp e).1
                    rw [List.length_append] at this
                    have h2 : i < rs.length + 1 := this
                    omega
                  subst ei
                  rw [List.getElem?_concat_length] at e
                  obtain rfl := Option.some.inj e
                  rw [upd_ne n75, hk, rowV_succ]
                  exact upd_same
        · have hge : rs.length = 61 := by
            have h9 : ¬ ((rs.map V.ref).length : Int) < 61 := fun z => hb (decide_eq_true z)
            rw [List.length_map] at h9
            omega
          exact ⟨_, rfl, q _ _ rs s6 f5 hge R⟩
end
/-! ### the law's common divisor -/
def spCommon : Sp := fun vs H Q _ => ∃ a b : Nat, vs = [.int a, .int b] ∧ Q (.int (Nat.gcd a b : Nat)) H
def WCommon (a b : Nat) (H : Hp) (m : Nat) (σ : L2.St) (H' : Hp) : Prop := ∃ x y : Nat, σ = [some (.int x), some (.int y)] ∧ H' = H ∧ Nat.gcd x y = Nat.gcd a b ∧ m = y
theorem common_turn (x y : Nat) : Nat.gcd y (x % y) = Nat.gcd x y := by
  rw [Nat.gcd_comm x y, Nat.gcd_rec y x, Nat.gcd_comm]
section
variable {P : Program} {w : World} {K : PySem.W.Frag} {mg : Str → Option Value} {base : Heap}
theorem ok_common (T : Txt K mg) {j : Nat} : FnOk P w K mg base CX0 (j + 1) T.fCommon T.fdCommon ["_law_one", "_law_other"] spCommon := by
  refine T.FCommon.ok scCommon (fun vs H Q E h => ?_) (fun cdv A outer s H vs Q E hr h => ?_)
  · obtain ⟨a, b, rfl, _⟩ := h
    rfl
  · obtain ⟨a, b, rfl, q⟩ := h
    refine ⟨_, pss_cons (ps_while PassesOwn.never (pt_cmpR op_gt (pv 1) pe_int (nomark _)) (pss_one (ps_par (i := 0) (j := 1) rfl scCommon.nd rfl rfl (by decide) rfl rfl (pa_cons (pv 1) (pa_cons (pe_op op_mod (pv 0) (pv 1)) pa_nil)) (by rfl))))
      (pss_one (ps_ret (pv 0))), ?_⟩
    refine ⟨WCommon a b H, ⟨b, a, b, rfl, rfl, rfl, rfl⟩, ?_⟩
    rintro m σ H' ⟨x, y, rfl, rfl, hg, rfl⟩
    refine ⟨_, rfl, _, _, rfl, rfl, _, rfl, ite2 (fun h1 => ?_) (fun h1 => ?_)⟩
    · have h0 : (0 : Int) < (m : Int) := of_decide_eq_true h1
      refine ⟨WCommon a b H' (x % m), fun σ' H'' hw => ⟨x % m, Nat.mod_lt _ (by omega), hw⟩, ?_⟩
      refine ⟨_, rfl, _, rfl, _, rfl, _, _, rfl, rfl, h0, _, _, rfl, m, x % m, ?_, rfl, by rw [common_turn]; exact hg, rfl⟩
      rw [Int.natCast_emod]
      rfl
    · have h0 : m = 0 := by
        have h2 : ¬ (0 : Int) < (m : Int) := fun z => h1 (decide_eq_true z)
        omega
      subst h0
      rw [Nat.gcd_zero_right] at hg
      rw [← hg] at q
      exact ⟨_, rfl, q⟩
end
/-! ### the law's least number of lists -/
theorem RowsAt.same {H H' : Hp} {p : Addr} {rs : List Addr} (R : RowsAt H p rs) (s : Same H H') : RowsAt H' p rs := ⟨s _ _ R.at_p, fun i r e => s _ _ (R.row i r e)⟩
theorem RowsAt.at {K : PySem.W.Frag} {H : Hp} {p : Addr} {rs : List Addr} (R : RowsAt H p rs) (hl : rs.length = 61) {i : Nat} (hi : i < 61) : ∃ r, atI (rs.map V.ref) (i : Int) = some (.ref r) ∧ SqL K H r (rowV i) := by
  have h : i < rs.length := by omega
  refine ⟨rs[i], atI_nat (by rw [List.getElem?_map, List.getElem?_eq_getElem h]; rfl), SqL.of (R.row i _ (List.getElem?_eq_getElem h))⟩
def spLeast : Sp := fun vs H Q _ => ∃ (p : Addr) (rs : List Addr) (n d : Nat), vs = [.ref p, .int n, .int d] ∧ RowsAt H p rs ∧ rs.length = 61 ∧ n ≤ 60 ∧ 1 ≤ n ∧ d ≤ n ∧ Q (.int (leastL n d : Nat)) H
section
variable {P : Program} {w : World} {K : PySem.W.Frag} {mg : Str → Option Value} {base : Heap}
theorem ok_least (T : Txt K mg) {j : Nat} : FnOk P w K mg base CX0 (j + 2) T.fLeast T.fdLeast ["_law_rows_here", "_law_wide", "_law_tall"] spLeast := by
  refine T.FLeast.ok scLeast (fun vs H Q E h => ?_) (fun cdv A outer s H vs Q E hr h => ?_)
  · obtain ⟨p, rs, n, d, rfl, _⟩ := h
    rfl
  · obtain ⟨p, rs, n, d, rfl, R, hl, hn, h1, hd, q⟩ := h
    refine ⟨_, pss_cons (ps_set (i := 3) scLeast.nd rfl (.inl rfl) pe_int)
      (pss_cons (ps_for PassesOwn.never rfl (pi_range1 (by rfl) T.n_range (pa_cons (pv 2) pa_nil)) (pg_name (i := 4) scLeast.nd rfl (.inl rfl))
        (pss_cons (ps_set (i := 5) scLeast.nd rfl (.inl rfl) (pe_op op_mul (pv 1) (pe_ix ix_list (pe_ix ix_list (pv 0) (pe_op op_sub (pv 1) pe_int) (fun _ _ => rfl)) (pv 4) (fun _ _ => rfl))))
        (pss_one (ps_set (i := 3) scLeast.nd rfl (.inl rfl) (pe_op op_mul (pe_op op_fdivW (pv 3) (pe_call (ok_common T) hr (by rfl) T.gCommon T.FCommon.kp T.bCommon .nil pass0 (pa_cons (pv 3) (pa_cons (pv 5) pa_nil)))) (pv 5))))))
      (pss_one (ps_ret (pv 3)))), ?_⟩
    refine ⟨_, rfl, (d : Int), rfl, by omega, by omega, ?_⟩
    refine for_range (lo := 0) (n := (d : Int).toNat) (fun i σ H2 => ∃ v u, σ = [some (.ref p), some (.int n), some (.int d), some (.int (leastL n i : Nat)), v, u] ∧ H2 = H) ⟨none, none, rfl, rfl⟩ ?_ ?_
    · rintro i σ H2 hi ⟨v, u, rfl, rfl⟩
      have hid : i < n := by omega
      rw [Int.zero_add]
      obtain ⟨r, er, hr2⟩ := R.at (K := K) hl (show n - 1 < 61 by omega)
      have en : (n : Int) - 1 = ((n - 1 : Nat) : Int) := by omega
      have e0 := edge_pos hid
      have e1 := edge_lt (d := i) hn
      have ec : ((n : Int) * (C (n - 1) i : Int)) = ((n * C (n - 1) i : Nat) : Int) := (Int.natCast_mul _ _).symm
      have g0 : 0 < Nat.gcd (leastL n i) (n * C (n - 1) i) := Nat.gcd_pos_of_pos_right _ e0
      have g1 : Nat.gcd (leastL n i) (n * C (n - 1) i) ≤ n * C (n - 1) i := Nat.gcd_le_right _ e0
      refine ⟨_, rfl, .ref p, rfl, _, rfl, _, _, rfl, rfl, p, _, _, _, rfl, rfl, SqL.of R.at_p, by rw [en]; exact er, _, rfl, r, _, _, _, rfl, rfl, hr2, atI_nat (rowV_at (n - 1) (show i < 61 by omega)), _, _, rfl, rfl, .inl ⟨by omega, by omega⟩, ?_⟩
      dsimp only
      rw [ec]
      refine ⟨_, rfl, _, rfl, _, rfl, leastL n i, n * C (n - 1) i, rfl, _, _, rfl, rfl, wide_div (b := 64) (by omega) (by omega) (by decide) (by decide), _, rfl, _, _, rfl, rfl, .inr ⟨by omega, by omega⟩, some (.int (i : Int)), some (.int ((n * C (n - 1) i : Nat) : Int)), ?_, rfl⟩
      show _ = [_, _, _, some (V.int ((stepL (leastL n i) (n * C (n - 1) i) : Nat) : Int)), _, _]
      unfold stepL
      rw [Int.natCast_mul _ (n * C (n - 1) i), Int.natCast_ediv]
      rfl
    · rintro σ H2 ⟨v, u, rfl, rfl⟩
      rw [Int.toNat_natCast]
      exact ⟨_, rfl, q⟩
end
/-! ### an error told as a pair, or nothing -/
def EC11 {K : PySem.W.Frag} {mg : Str → Option Value} (T : Txt K mg) (Q : VK) : XK := fun cls d H' => ∃ (d' : Addr) (nm : Str) (v : V), d = some d' ∧ ((cls = .ref T.cNotP ∧ nm = "count" ∧ H' d' = some (.xd [("count", v)])) ∨ (cls = .ref T.cNoN ∧ nm = "number" ∧ H' d' = some (.xd [("value", v)]))) ∧ ∀ H2 x, Same H' H2 → H' x = none → H2 x = some (.tup [.str nm, v]) → Q (.ref x) H2
def TT11 {K : PySem.W.Frag} {mg : Str → Option Value} (T : Txt K mg) : (XK → Hp → VK → Prop) → Hp → VK → Prop := fun tl H Q => ∀ H0 Q', Same H H0 → (∀ v H1, (∀ H2, Same H1 H2 → Q .non H2) → Q' v H1) → tl (EC11 T Q) H0 Q'
theorem gives_caught11 {X : Cx} {K : PySem.W.Frag} {mg : Str → Option Value} (T : Txt K mg) (hK : X.K = K) (hmg : X.mg = mg) {cdg : Value} {q : Str} : LamX.GivesTo X NCaught11 "_law_caught" (defScope sCaught11) T.fCaught11 cdg (defBody sCaught11) "_law_ask" q (TT11 T) := by
  subst hK hmg
  intro f c' s H Q tl act hc h
  refine ⟨_, pss_cons (ps_set (i := 1) scCaught11.nd rfl (.inl rfl) pe_non) (pss_cons (ps_try_keep (i := 2) (Wout := fun _ _ _ _ => False) rfl rfl rfl scCaught11.nd rfl rfl ⟨rfl, by decide, Or.inl T.gcBase⟩ takesF (fun W pn xe tk _ => (pss_one (ps_expr (pe_actE 5 tk (fun E W' tk' hE => act W' pn xe E _ _ tk' hE))))) (fun _ _ _ _ _ _ _ => (pss_one (ps_set (i := 1) scCaught11.nd rfl (.inl rfl) (pv 2))))) (pss_cons (ps_if (PW.pt (pw_or (pt_cmpR op_isN (pv 1) pe_non (nomark _)) (pw_or (pt_val (pe_callB call_isXT (by rfl) T.n_isinstance (by decide +kernel) (pa_cons (pv 1) (pa_cons (pe_tup (pa_cons (pe_glob (v := .ref T.cTooM) (by rfl) T.gcTooM rfl) (pa_cons (pe_glob (v := .ref T.cTooS) (by rfl) T.gcTooS rfl) pa_nil))) pa_nil)))) (pw_or1 (pt_not (pt_val (pe_callB call_isX (by rfl) T.n_isinstance (by decide +kernel) (pa_cons (pv 1) (pa_cons (pe_bltn (v := .ty "ValueError") (by rfl) T.n_ValueError (by decide +kernel) rfl) pa_nil))))))))) (pss_one (ps_ret pe_non)) pss_nil) (pss_cons (ps_par (i := 3) (j := 4) rfl scCaught11.nd rfl rfl (by decide) rfl rfl (pa_cons (pe_callB call_isX (by rfl) T.n_isinstance (by decide +kernel) (pa_cons (pv 1) (pa_cons (pe_glob (v := .ref T.cNotP) (by rfl) T.gcNotP rfl) pa_nil))) (pa_cons (pe_callB call_isX (by rfl) T.n_isinstance (by decide +kernel) (pa_cons (pv 1) (pa_cons (pe_glob (v := .ref T.cNoN) (by rfl) T.gcNoN rfl) pa_nil))) pa_nil)) (by rfl)) (pss_cons (ps_if (pt_cmpR op_eq (pv 3) (pv 4) (nomark _)) (pss_one (ps_ret pe_non)) pss_nil) (pss_one (ps_ret (pe_ifExp (pt_val (pv 3)) (pe_tup (pa_cons pe_str (pa_cons (pe_fldX (pv 1)) pa_nil))) (pe_tup (pa_cons pe_str (pa_cons (pe_fldX (pv 1)) pa_nil)))))))))), ?_⟩
  refine ⟨EC11 T Q, fun cls d σ' H' he hlen => ?_, rfl, hc, ?_⟩
  · obtain ⟨d', nm, v, rfl, he, hq⟩ := he
    obtain ⟨a1, a2, a3, a4, a5, rfl⟩ := len5 hlen
    rcases he with ⟨rfl, rfl, hd⟩ | ⟨rfl, rfl, hd⟩
    · refine ⟨true, T.eNotP.ex, fun _ e ne => ?_, fun z => nomatch z⟩
      have s2 := same_new (o := exk e (.ref T.cNotP) (some d')) ne
      have ea : (upd H' e (exk e (.ref T.cNotP) (some d'))) e = some (exk e (.ref T.cNotP) (some d')) := upd_same
      have ed : (upd H' e (exk e (.ref T.cNotP) (some d'))) d' = some (.xd [("count", v)]) := s2 _ _ hd
      refine ⟨.ref e, rfl, ?_⟩
      refine ⟨.ref e, rfl, rfl, _, rfl, iteF ?_⟩
      refine ⟨.ref e, rfl, (by show 2 ≤ sizeLine; decide), fun t1 nt1 => ?_⟩
      have s3 := same_new (o := .tup [V.ref T.cTooM, V.ref T.cTooS]) nt1
      refine ⟨e, T.cNotP, d', _, t1, _, _, _, rfl, s3 _ _ ea, s3 _ _ ed, T.eNotP.ec, upd_same, .cons (.own _) (.cons (.own _) .nil), T.kA_NotP, _, rfl, iteF ?_⟩
      refine ⟨.ref e, rfl, e, T.cNotP, d', _, _, _, _, rfl, s3 _ _ ea, s3 _ _ ed, T.eNotP.ec, .ty _, T.kV_NotP, _, rfl, iteF ?_⟩
      refine ⟨.ref e, rfl, e, T.cNotP, d', _, _, _, _, rfl, s3 _ _ ea, s3 _ _ ed, T.eNotP.ec, .own _, T.kP_NotP, .ref e, rfl, e, T.cNotP, d', _, _, _, _, rfl, s3 _ _ ea, s3 _ _ ed, T.eNotP.ec, .own _, T.kN_NotP, _, _, rfl, ?_⟩
      refine ⟨_, rfl, _, rfl, rfl, _, rfl, ite2 (fun z => absurd (of_decide_eq_true z) (by intro h; cases h)) (fun _ => ?_)⟩
      refine ⟨_, rfl, _, rfl, iteT ⟨.ref e, rfl, e, T.cNotP, d', _, v, rfl, s3 _ _ ea, s3 _ _ ed, T.eNotP.xf, T.eNotP.no, rfl, (by show 2 ≤ sizeLine; decide), fun p np => ?_⟩⟩
      exact hq _ p ((s2.trans s3).trans (same_new np)) ((s2.trans s3).free np) upd_same
    · refine ⟨true, T.eNoN.ex, fun _ e ne => ?_, fun z => nomatch z⟩
      have s2 := same_new (o := exk e (.ref T.cNoN) (some d')) ne
      have ea : (upd H' e (exk e (.ref T.cNoN) (some d'))) e = some (exk e (.ref T.cNoN) (some d')) := upd_same
      have ed : (upd H' e (exk e (.ref T.cNoN) (some d'))) d' = some (.xd [("value", v)]) := s2 _ _ hd
      refine ⟨.ref e, rfl, ?_⟩
      refine ⟨.ref e, rfl, rfl, _, rfl, iteF ?_⟩
      refine ⟨.ref e, rfl, (by show 2 ≤ sizeLine; decide), fun t1 nt1 => ?_⟩
      have s3 := same_new (o := .tup [V.ref T.cTooM, V.ref T.cTooS]) nt1
      refine ⟨e, T.cNoN, d', _, t1, _, _, _, rfl, s3 _ _ ea, s3 _ _ ed, T.eNoN.ec, upd_same, .cons (.own _) (.cons (.own _) .nil), T.kA_NoN, _, rfl, iteF ?_⟩
      refine ⟨.ref e, rfl, e, T.cNoN, d', _, _, _, _, rfl, s3 _ _ ea, s3 _ _ ed, T.eNoN.ec, .ty _, T.kV_NoN, _, rfl, iteF ?_⟩
      refine ⟨.ref e, rfl, e, T.cNoN, d', _, _, _, _, rfl, s3 _ _ ea, s3 _ _ ed, T.eNoN.ec, .own _, T.kP_NoN, .ref e, rfl, e, T.cNoN, d', _, _, _, _, rfl, s3 _ _ ea, s3 _ _ ed, T.eNoN.ec, .own _, T.kN_NoN, _, _, rfl, ?_⟩
      refine ⟨_, rfl, _, rfl, rfl, _, rfl, ite2 (fun z => absurd (of_decide_eq_true z) (by intro h; cases h)) (fun _ => ?_)⟩
      refine ⟨_, rfl, _, rfl, iteF ⟨.ref e, rfl, e, T.cNoN, d', _, v, rfl, s3 _ _ ea, s3 _ _ ed, T.eNoN.xf, T.eNoN.no, rfl, (by show 2 ≤ sizeLine; decide), fun p np => ?_⟩⟩
      exact hq _ p ((s2.trans s3).trans (same_new np)) ((s2.trans s3).free np) upd_same
  · refine h _ _ (Same.refl _) fun v H1 hq => ?_
    refine ⟨_, rfl, rfl, _, rfl, iteT (iteT ?_)⟩
    exact hq _ (Same.refl _)
/-! ### data while tables grow -/
section
variable {K : PySem.W.Frag} {H H' : Hp}
mutual
theorem Dp.ext (e : LamX.ExtN H H') : ∀ {d : PyData} {v : V}, Dp K H v d → Dp K H' v d
  | .none, _, h => by cases h; exact .non
  | .bool _, _, h => by cases h; exact .bl _
  | .int _, _, h => by cases h; exact .int _
  | .str _, _, h => by cases h; exact .str _
  | .list ds, _, h => by
    cases h with
    | lst hs ha => exact .lst (SqL_extN hs e) (DpAll.ext e ha)
  | .tuple ds, _, h => by
    cases h with
    | tup hs ha => exact .tup (SqT_extN hs e) (DpAll.ext e ha)
  | .dict _, _, h => by cases h
theorem DpAll.ext (e : LamX.ExtN H H') : ∀ {ds : List PyData} {vs : List V}, DpAll K H vs ds → DpAll K H' vs ds
  | [], _, h => by cases h; exact .nil
  | d :: ds, _, h => by
    cases h with
    | cons h1 h2 => exact .cons (Dp.ext e h1) (DpAll.ext e h2)
end
theorem ItemS.ext {v : V} {d : PyData} (e : LamX.ExtN H H') (h : ItemS K H v d) : ItemS K H' v d := by
  rcases h with ⟨h, h2⟩ | ⟨e1, p, e2, h⟩
  · exact .inl ⟨Dp.ext e h, h2⟩
  · exact .inr ⟨e1, p, e2, e _ _ h (fun _ z => by cases z)⟩
theorem TyX.ext {v : V} {t : Value} (e : LamX.ExtN H H') (h : TyX K H v t) : TyX K H' v t := by
  cases h with
  | base h =>
    cases h with
    | non => exact .base .non
    | bl x => exact .base (.bl x)
    | int i => exact .base (.int i)
    | str x => exact .base (.str x)
    | flt x => exact .base (.flt x)
    | lst z => exact .base (.lst (e _ _ z (fun _ q => by cases q)))
    | frz z => exact .base (.frz (e _ _ z (fun _ q => by cases q)))
    | tup z => exact .base (.tup (e _ _ z (fun _ q => by cases q)))
    | dK z => exact .base (.dK (e _ _ z (fun _ q => by cases q)))
    | dT z => exact .base (.dT (e _ _ z (fun _ q => by cases q)))
    | ins z a1 a2 a3 a4 a5 => exact .base (.ins (e _ _ z (fun _ q => by cases q)) a1 a2 a3 a4 a5)
  | byt b => exact .byt b
  | set z => exact .set (e _ _ z (fun _ q => by cases q))
  | kList a b => exact .kList a b
  | kTuple a b => exact .kTuple a b
  | kDict a b => exact .kDict a b
  | fTuple z => exact .fTuple (e _ _ z (fun _ q => by cases q))
  | fDict z => exact .fDict (e _ _ z (fun _ q => by cases q))
theorem CountV.ext {v : V} {o : Option Int} (e : LamX.ExtN H H') (h : CountV K H v o) : CountV K H' v o := by
  rcases h with h | ⟨h1, t, h2, h3, h4⟩
  · exact .inl h
  · exact .inr ⟨h1, t, h2, h3, TyX.ext e h4⟩
end
theorem pair_show {K : PySem.W.Frag} {H : Hp} {x : Addr} {nm : Str} {v : V} {d : PyData} (hx : H x = some (.tup [.str nm, v])) (hd : ItemS K H v d) (hs : Sh 0 100 (.str nm)) (h1 : (PyData.tuple [.str nm, .dict []]).showable = true) (h2 : (PyData.tuple [.str nm, .dict []]).shown.length ≤ sizeLine) : ShowV K H (.ref x) (.tuple [.str nm, d]) := by
  rcases hd with ⟨h, s⟩ | ⟨rfl, p, rfl, hp⟩
  · exact .inl ⟨.tup (SqT.of hx) (.cons (.str _) (.cons h .nil)), (Sh.tup (ShAll.cons (hs.mono (Nat.zero_le 50) (Nat.le_refl _)) (ShAll.cons s (ShAll.nil.mono (Nat.zero_le 50) (Nat.le_refl 0))))).mono (by decide) (by decide)⟩
  · exact .inr ⟨x, rfl, .tup (SqT.of hx) (.cons (.str _) (.cons (.dic hp) .nil)), h1, by show max 0 (max 1 0) + 1 ≤ 60; decide, h2⟩
/-- names of outcomes, each fit to be shown -/
def NmOk (nm : Str) : Prop := Sh 0 100 (.str nm) ∧ (PyData.tuple [.str nm, .dict []]).showable = true ∧ (PyData.tuple [.str nm, .dict []]).shown.length ≤ sizeLine
theorem nm_ret : NmOk "returned" := ⟨⟨by decide +kernel, by decide +kernel, by decide +kernel, by decide +kernel, by decide +kernel⟩, by decide +kernel, by decide +kernel⟩
theorem nm_NoN : NmOk "NoNumber" := ⟨⟨by decide +kernel, by decide +kernel, by decide +kernel, by decide +kernel, by decide +kernel⟩, by decide +kernel, by decide +kernel⟩
theorem nm_NotL : NmOk "NotLive" := ⟨⟨by decide +kernel, by decide +kernel, by decide +kernel, by decide +kernel, by decide +kernel⟩, by decide +kernel, by decide +kernel⟩
theorem nm_NotD : NmOk "NotDead" := ⟨⟨by decide +kernel, by decide +kernel, by decide +kernel, by decide +kernel, by decide +kernel⟩, by decide +kernel, by decide +kernel⟩
theorem nm_TooF : NmOk "TooFew" := ⟨⟨by decide +kernel, by decide +kernel, by decide +kernel, by decide +kernel, by decide +kernel⟩, by decide +kernel, by decide +kernel⟩
theorem nm_NotP : NmOk "NotPossible" := ⟨⟨by decide +kernel, by decide +kernel, by decide +kernel, by decide +kernel, by decide +kernel⟩, by decide +kernel, by decide +kernel⟩
theorem nm_NoC : NmOk "NoCluster" := ⟨⟨by decide +kernel, by decide +kernel, by decide +kernel, by decide +kernel, by decide +kernel⟩, by decide +kernel, by decide +kernel⟩
/-! ### three tables -/
theorem hu3a {P P2 P3 : Addr} {q q2 q3 : Str} (n2 : P ≠ P2) (n3 : P ≠ P3) : ∀ p ∈ [(P, q), (P2, q2), (P3, q3)], p.1 = P → p.2 = q := fun p hp e => by
  simp only [List.mem_cons, List.not_mem_nil, or_false] at hp
  rcases hp with rfl | rfl | rfl
  · rfl
  · exact absurd e.symm n2
  · exact absurd e.symm n3
theorem hu3b {P P2 P3 : Addr} {q q2 q3 : Str} (n1 : P ≠ P2) (n3 : P2 ≠ P3) : ∀ p ∈ [(P, q), (P2, q2), (P3, q3)], p.1 = P2 → p.2 = q2 := fun p hp e => by
  simp only [List.mem_cons, List.not_mem_nil, or_false] at hp
  rcases hp with rfl | rfl | rfl
  · exact absurd e n1
  · rfl
  · exact absurd e.symm n3
theorem hu3c {P P2 P3 : Addr} {q q2 q3 : Str} (n1 : P ≠ P3) (n2 : P2 ≠ P3) : ∀ p ∈ [(P, q), (P2, q2), (P3, q3)], p.1 = P3 → p.2 = q3 := fun p hp e => by
  simp only [List.mem_cons, List.not_mem_nil, or_false] at hp
  rcases hp with rfl | rfl | rfl
  · exact absurd e n1
  · exact absurd e n2
  · rfl
/-! ### counts that are refused -/
/-- a value that is refused: data of bounded weight, or an empty dict -/
def Item11 (K : PySem.W.Frag) (H : Hp) (v : V) (d : PyData) : Prop := (Dp K H v d ∧ Sh 40 10000 d) ∨ (d = .dict [] ∧ ∃ p, v = .ref p ∧ H p = some (.dK []))
theorem Item11.ext {K : PySem.W.Frag} {H H' : Hp} {v : V} {d : PyData} (e : LamX.ExtN H H') (h : Item11 K H v d) : Item11 K H' v d := by
  rcases h with ⟨h, h2⟩ | ⟨e1, p, e2, h⟩
  · exact .inl ⟨Dp.ext e h, h2⟩
  · exact .inr ⟨e1, p, e2, e _ _ h (fun _ z => by cases z)⟩
theorem dp_rep {K : PySem.W.Frag} {H : Hp} {d : PyData} : ∀ {xs : List Addr}, (∀ x ∈ xs, Dp K H (.ref x) d) → DpAll K H (xs.map V.ref) (List.replicate xs.length d)
  | [], _ => .nil
  | _ :: _, h => .cons (h _ List.mem_cons_self) (dp_rep fun x hx => h x (List.mem_cons_of_mem _ hx))
theorem dz_rep {K : PySem.W.Frag} {H : Hp} {d : PyData} : ∀ {xs : List Addr}, (∀ x ∈ xs, Dz K H (.ref x) d) → DzAll K H (xs.map V.ref) (List.replicate xs.length d)
  | [], _ => .nil
  | _ :: _, h => .cons (h _ List.mem_cons_self) (dz_rep fun x hx => h x (List.mem_cons_of_mem _ hx))
theorem sh_rep {dp wt : Nat} {d : PyData} (h : Sh dp wt d) : ∀ k : Nat, ShAll dp ((wt + 1) * k) (List.replicate k d)
  | 0 => ShAll.nil.mono (Nat.zero_le _) (Nat.zero_le _)
  | k + 1 => (ShAll.cons h (sh_rep h k)).mono (Nat.le_refl _) (by rw [Nat.mul_succ]; omega)
/-- an error told k times is fit to be shown -/
theorem told_show {K : PySem.W.Frag} {H : Hp} {t : Addr} {xs : List Addr} {k : Nat} {nm : Str} {v : V} {d : PyData} (ht : H t = some (.lst (xs.map V.ref))) (far : t ≠ sysModules) (hl : xs.length = k) (hk : k ≤ 4) (hx : ∀ x ∈ xs, H x = some (.tup [.str nm, v])) (hv : Item11 K H v d) (hs : Sh 0 100 (.str nm))
    (h1 : (PyData.list (List.replicate k (.tuple [.str nm, .dict []]))).showable = true) (h2 : (PyData.list (List.replicate k (.tuple [.str nm, .dict []]))).depth ≤ 60) (h3 : (PyData.list (List.replicate k (.tuple [.str nm, .dict []]))).shown.length ≤ sizeLine) : ShowV K H (.ref t) (.list (List.replicate k (.tuple [.str nm, d]))) := by
  subst hl
  rcases hv with ⟨hd, s⟩ | ⟨rfl, p, rfl, hp⟩
  · refine .inl ⟨.lst (SqL.of ht) (dp_rep fun x z => .tup (SqT.of (hx x z)) (.cons (.str _) (.cons hd .nil))), ?_⟩
    have q : Sh 41 10102 (.tuple [.str nm, d]) := (Sh.tup (ShAll.cons (hs.mono (Nat.zero_le 40) (Nat.le_refl _)) (ShAll.cons s (ShAll.nil.mono (Nat.zero_le 40) (Nat.le_refl 0))))).mono (by decide) (by decide)
    exact (Sh.lst (sh_rep q xs.length)).mono (by decide) (Nat.le_trans (Nat.mul_le_mul (Nat.le_refl _) hk) (by decide))
  · exact .inr ⟨t, rfl, .lst (SqL.of ht) far (dz_rep fun x z => .tup (SqT.of (hx x z)) (.cons (.str _) (.cons (.dic hp) .nil))), h1, h2, h3⟩
theorem extN_put {H1 H2 H' : Hp} {D : Addr} (e : LamX.ExtN H1 H2) (ne : ∀ b o, H1 b = some o → (∀ ps, o ≠ .tbl ps) → b ≠ D) (b : But D H2 H') : LamX.ExtN H1 H' := fun q o h z => b q o (ne q o h z) (e q o h z)
/-- the list of what was told so far -/
structure Told (tabs : List (Addr × Str)) (nm : Str) (v : V) (H0 H : Hp) (tl k : Nat) : Prop where
  at_l : ∃ xs : List Addr, xs.length = k ∧ H tl = some (.lst (xs.map V.ref)) ∧ ∀ x ∈ xs, H x = some (.tup [.str nm, v])
  far : tl ≠ sysModules
  keep : LamX.ExtN H0 H
  tab : LamX.Tabs tabs H
  old : ∀ b o, H0 b = some o → (∀ ps, o ≠ .tbl ps) → b ≠ tl
section
variable {tabs : List (Addr × Str)} {nm : Str} {v : V} {H0 H H2 : Hp} {tl k x : Nat}
theorem Told.ext (S : Told tabs nm v H0 H tl k) (e : LamX.ExtN H H2) (t : LamX.Tabs tabs H2) : Told tabs nm v H0 H2 tl k := by
  obtain ⟨xs, h1, h2, h3⟩ := S.at_l
  exact ⟨⟨xs, h1, extN_lst e h2, fun x hx => e _ _ (h3 x hx) (fun _ z => by cases z)⟩, S.far, LamX.ExtN.trans S.keep e, t, S.old⟩
theorem Told.one (e : LamX.ExtN H0 H) (t : LamX.Tabs tabs H) (hx : H x = some (.tup [.str nm, v])) (nt : H tl = none) (far : tl ≠ sysModules) : Told tabs nm v H0 (upd H tl (.lst [V.ref x])) tl 1 := by
  have s := same_new (o := .lst [V.ref x]) nt
  refine ⟨⟨[x], rfl, upd_same, fun y hy => ?_⟩, far, LamX.ExtN.trans e (extN_same s), tabs_same t s, fun b o h z => ne_of_none (e b o h z) nt⟩
  obtain rfl := List.mem_singleton.mp hy
  exact s _ _ hx
theorem Told.more (S : Told tabs nm v H0 H tl k) (hx : H x = some (.tup [.str nm, v])) : ∃ xs : List V, H tl = some (.lst xs) ∧ xs.length = k ∧ Told tabs nm v H0 (upd H tl (.lst (xs ++ [V.ref x]))) tl (k + 1) := by
  obtain ⟨xs, h1, h2, h3⟩ := S.at_l
  have bt : But tl H (upd H tl (.lst (xs.map V.ref ++ [V.ref x]))) := fun b o n e => by rw [upd_ne n]; exact e
  have ne : ∀ y, H y = some (.tup [.str nm, v]) → y ≠ tl := fun y hy z => by
    rw [z, h2] at hy
    cases hy
  refine ⟨xs.map V.ref, h2, by rw [List.length_map]; exact h1, ⟨xs ++ [x], by rw [List.length_append, h1]; rfl, by rw [upd_same, List.map_append]; rfl, fun y hy => ?_⟩, S.far, extN_put S.keep S.old bt, tabs_but S.tab h2 bt, S.old⟩
  have hy2 : H y = some (.tup [.str nm, v]) := by
    rcases List.mem_append.mp hy with hy | hy
    · exact h3 y hy
    · obtain rfl := List.mem_singleton.mp hy
      exact hx
  rw [upd_ne (ne y hy2)]
  exact hy2
end
theorem nm_count : Sh 0 100 (.str "count") := ⟨by decide +kernel, by decide +kernel, by decide +kernel, by decide +kernel, by decide +kernel⟩
def spCr11 (K : PySem.W.Frag) (tabs : List (Addr × Str)) : Sp := fun vs H Q _ => ∃ (n d : Nat) (tot v : V) (dv : PyData) (o : Option Int), vs = [.int n, .int d, tot, v] ∧ 2 ≤ n ∧ n ≤ 60 ∧ 1 ≤ d ∧ d ≤ n ∧ Item11 K H v dv ∧ CountV K H v o ∧ possB (leastL n d) o = false ∧ LamX.Tabs tabs H ∧
  ∀ H', LamX.ExtN H H' → LamX.Tabs tabs H' → Q (.bl true) H'
section
variable {P : Program} {w : World} {K : PySem.W.Frag} {mg : Str → Option Value} {base : Heap}
theorem ok_cr11 (T : Txt K mg) (B : TBs T base) {j : Nat} : FnG P w K mg base CX0 (j + 9) T.fCr11 T.fdCr11 ["_law_wide", "_law_tall", "_law_total", "_law_odd"] (spCr11 K (tabsOf T)) := by
  refine Fun_ok0C T.FCr11 T.coCr11 scCr11 (fun vs H Q E h => ?_) (fun A outer s H vs Q E gd hr h => ?_)
  · obtain ⟨n, d, tot, v, dv, o, rfl, _⟩ := h
    rfl
  · obtain ⟨n, d, tot, v, dv, o, rfl, n2, n6, d1, dn, it, ct, no, tab, q⟩ := h
    have hu66 : (A.deeper (envOfC "_law_count_right" (defScope sCr11) s.heap.objs.size T.fCr11 (.ref T.ccCr11))).units + 66 < cLine := by
      have := hr.un
      omega
    refine ⟨_, pss_cons (ps_set (i := 4) scCr11.nd rfl (.inr rfl) (pe_tupRg rfl (by rfl) T.n_tuple (prg_1 (by rfl) T.n_range (pv 1)))) (pss_cons (ps_for PassesOwn.never rfl (pi_tup (pe_tup (pa_cons pe_int (pa_cons pe_non (pa_cons (pe_un un_neg pe_int) pa_nil))))) (pg_name (i := 5) scCr11.nd rfl (.inr rfl)) (C8.pss_cut (ps_set (i := 6) scCr11.nd rfl (.inl rfl) (pe_lstN (pa_cons (pe_lam (T := tabsOf T) T.FCaught11 (by rfl) T.gCaught11 T.bCaught11 scCaught11 rfl (Or.inl rfl) (fun cdg => gives_caught11 T rfl rfl) B.tbCr11 rfl (.head _) (hu3a B.neCr11_Nr11 B.neCr11_Law) hr (LamX.lamS_by (sc := defScope sCr11) (by decide +kernel)) (fun A outer s H E f c' hr => (pe_call (ok_listat T) hr (by rfl) T.gListAt T.FListAt.kp T.bListAt .nil (passes_call (takes_of rfl rfl rfl rfl) (fun _ _ _ _ h => h)) (pa_cons (pv 0) (pa_cons (pv 1) (pa_cons (pv 3) (pa_cons (pv 5) pa_nil))))))) pa_nil))) (C8.pss_cut (ps_expr (pe_bm PySem.F.plainAttrs_list PySem.F.slot_list_append PySem.F.type_list_append mt_append (pv 6) (pa_cons (pe_lam (T := tabsOf T) T.FCaught11 (by rfl) T.gCaught11 T.bCaught11 scCaught11 rfl (Or.inl rfl) (fun cdg => gives_caught11 T rfl rfl) B.tbCr11 rfl (.head _) (hu3a B.neCr11_Nr11 B.neCr11_Law) hr (LamX.lamS_by (sc := defScope sCr11) (by decide +kernel)) (fun A outer s H E f c' hr => (pe_call (ok_placeat T) hr (by rfl) T.gPlaceAt T.FPlaceAt.kp T.bPlaceAt .nil (passes_call (takes_of rfl rfl rfl rfl) (fun _ _ _ _ h => h)) (pa_cons (pv 0) (pa_cons (pv 1) (pa_cons (pv 3) (pa_cons (pv 5) pa_nil))))))) pa_nil))) (C8.pss_cut (ps_expr (pe_bm PySem.F.plainAttrs_list PySem.F.slot_list_append PySem.F.type_list_append mt_append (pv 6) (pa_cons (pe_lam (T := tabsOf T) T.FCaught11 (by rfl) T.gCaught11 T.bCaught11 scCaught11 rfl (Or.inl rfl) (fun cdg => gives_caught11 T rfl rfl) B.tbCr11 rfl (.head _) (hu3a B.neCr11_Nr11 B.neCr11_Law) hr (LamX.lamS_by (sc := defScope sCr11) (by decide +kernel)) (fun A outer s H E f c' hr => (pe_call (ok_numat T) hr (by rfl) T.gNumAt T.FNumAt.kp T.bNumAt .nil (passes_call (takes_of rfl rfl rfl rfl) (fun _ _ _ _ h => h)) (pa_cons (pv 0) (pa_cons (pv 3) (pa_cons (pv 4) (pa_cons (pv 5) pa_nil))))))) pa_nil))) (C8.pss_cut (ps_expr (pe_bm PySem.F.plainAttrs_list PySem.F.slot_list_append PySem.F.type_list_append mt_append (pv 6) (pa_cons (pe_lam (T := tabsOf T) T.FCaught11 (by rfl) T.gCaught11 T.bCaught11 scCaught11 rfl (Or.inl rfl) (fun cdg => gives_caught11 T rfl rfl) B.tbCr11 rfl (.head _) (hu3a B.neCr11_Nr11 B.neCr11_Law) hr (LamX.lamS_by (sc := defScope sCr11) (by decide +kernel)) (fun A outer s H E f c' hr => (pe_call (ok_numw T) hr (by rfl) T.gNumW T.FNumW.kp T.bNumW .nil (passes_call (takes_of rfl rfl rfl rfl) (fun _ _ _ _ h => h)) (pa_cons (pv 0) (pa_cons (pv 3) (pa_cons (pv 4) pa_nil)))))) pa_nil))) (pss_one (ps_if (pt_cmpR op_ne (pe_callB (call_reprZ K gd hu66) (by rfl) T.n_repr (by decide +kernel) (pa_cons (pv 6) pa_nil)) (pe_callB (call_reprZ K gd hu66) (by rfl) T.n_repr (by decide +kernel) (pa_cons (pe_op op_repN (pe_lst (pa_cons (pe_tup (pa_cons pe_str (pa_cons (pv 3) pa_nil))) pa_nil)) pe_int) pa_nil)) (nomark _)) (pss_one (ps_ret pe_bl)) pss_nil))))))) (pss_one (ps_ret pe_bl))), ?_⟩
    refine ⟨_, rfl, _, rfl, .of_le (by omega) (by omega) (by omega) (by omega), fun ti nti => ?_⟩
    rw [setV_range]
    have sT := same_new (o := .tup (setV (List.range' 0 d))) nti
    have hti : SqT K (upd H ti (.tup (setV (List.range' 0 d)))) ti (setV (List.range' 0 d)) := SqT.of upd_same
    show gName 4 (V.ref ti) _ (upd H ti (.tup (setV (List.range' 0 d)))) _
    generalize upd H ti (.tup (setV (List.range' 0 d))) = HB at sT hti ⊢
    refine ⟨1, rfl, (by show 3 ≤ sizeLine; decide), fun tt ntt => ?_⟩
    have sU := same_new (o := .tup [V.int 0, V.non, V.int (-1)]) ntt
    refine ⟨tt, rfl, ⟨[V.int 0, V.non, V.int (-1)], SqT.of upd_same⟩, for_tup (K := K) (a := tt) (xs := [V.int 0, V.non, V.int (-1)]) (fun i σ H2 => ∃ v5 v6, σ = [some (.int n), some (.int d), some tot, some v, some (.ref ti), v5, v6] ∧ LamX.ExtN (upd HB tt (.tup [V.int 0, V.non, V.int (-1)])) H2 ∧ LamX.Tabs (tabsOf T) H2) ⟨none, none, rfl, LamX.ExtN.refl _, tabs_same tab (sT.trans sU)⟩ (fun i σ H2 _ ⟨_, _, _, e2, _⟩ => SqT_extN (SqT.of upd_same) e2) ?_ ?_⟩
    rotate_left
    · rintro σ H2 ⟨v5, v6, rfl, e2, T2⟩
      exact q H2 (LamX.ExtN.trans (extN_same (sT.trans sU)) e2) T2
    rintro i x σ H2 hx ⟨v5, v6, rfl, e2, T2⟩
    obtain ⟨m, cx⟩ : ∃ m, ∀ H', CountV K H' x m := by
      rcases List.mem_cons.mp (List.mem_of_getElem? hx) with rfl | hx
      · exact ⟨some 0, fun H' => .inl ⟨0, rfl, rfl⟩⟩
      rcases List.mem_cons.mp hx with rfl | hx
      · exact ⟨none, fun H' => .inr ⟨rfl, "NoneType", by decide, rfl, .base .non⟩⟩
      rcases List.mem_cons.mp hx with rfl | hx
      · exact ⟨some (-1), fun H' => .inl ⟨-1, rfl, rfl⟩⟩
      cases hx
    have eH2 : LamX.ExtN H H2 := LamX.ExtN.trans (extN_same (sT.trans sU)) e2
    have hti2 : SqT K H2 ti (setV (List.range' 0 d)) := SqT_extN (Same.seqT sU hti) e2
    have mem0 : ∀ y ∈ List.range' 0 d, y < d := fun y hy => (mem_range0).mp hy
    show C8.tCut _ _ _ _ _
    refine ⟨fun σ H => ∃ tl, σ = [some (.int n), some (.int d), some tot, some v, some (.ref ti), some x, some (.ref tl)] ∧ Told (tabsOf T) "count" v H2 H tl 1, ?_, ?_⟩
    · refine ⟨T2, fun HD eD TD HE Q' sE hq => ?_⟩
      have eE : LamX.ExtN H2 HE := LamX.ExtN.trans eD (extN_same sE)
      have e0 : LamX.ExtN H HE := LamX.ExtN.trans eH2 eE
      refine ⟨_, rfl, _, rfl, v, rfl, x, rfl, n, d, v, o, x, m, rfl, by omega, by omega, dn, ct.ext e0, cx _, fun hN H' d' sH hd' nd' => ⟨d', "count", v, rfl, .inl ⟨rfl, rfl, hd'⟩, fun H3 x s2 nx hx => ?_⟩, fun c e st => absurd no (by rw [e]; intro z; rw [std_poss st] at z; cases z)⟩
      refine ⟨(by show 1 ≤ sizeLine; decide), fun tl ntl farl => ?_⟩
      exact ⟨tl, rfl, Told.one (LamX.ExtN.trans eE (extN_same (sH.trans s2))) (tabs_same TD (sE.trans (sH.trans s2))) hx ntl farl⟩
    rintro σ Ha ⟨tl, rfl, S1⟩
    refine ⟨fun σ H => ∃ tl, σ = [some (.int n), some (.int d), some tot, some v, some (.ref ti), some x, some (.ref tl)] ∧ Told (tabsOf T) "count" v H2 H tl 2, ?_, ?_⟩
    · obtain ⟨xs0, _, hx0, _⟩ := S1.at_l
      refine ⟨.ref tl, rfl, .inl ⟨rfl, _, SqL.of hx0⟩, ?_⟩
      refine ⟨S1.tab, fun HD eD TD HE Q' sE hq => ?_⟩
      have eE : LamX.ExtN H2 HE := LamX.ExtN.trans S1.keep (LamX.ExtN.trans eD (extN_same sE))
      have e0 : LamX.ExtN H HE := LamX.ExtN.trans eH2 eE
      have hT : SqT K HE ti (setV (List.range' 0 d)) := SqT_extN hti2 eE
      refine ⟨_, rfl, _, rfl, v, rfl, x, rfl, n, d, v, o, x, m, rfl, by omega, by omega, dn, ct.ext e0, cx _, fun hN H' d' sH hd' nd' => ⟨d', "count", v, rfl, .inl ⟨rfl, rfl, hd'⟩, fun H3 x s2 nx hx => ?_⟩, fun c e st => absurd no (by rw [e]; intro z; rw [std_poss st] at z; cases z)⟩
      obtain ⟨ys, hys, yl, S9⟩ := (S1.ext (LamX.ExtN.trans eD (extN_same (sE.trans (sH.trans s2)))) (tabs_same TD (sE.trans (sH.trans s2)))).more hx
      exact ⟨tl, _, _, rfl, rfl, hys, (by rw [yl]; show 1 < sizeLine; decide), tl, rfl, S9⟩
    rintro σ Ha ⟨tl, rfl, S2⟩
    refine ⟨fun σ H => ∃ tl, σ = [some (.int n), some (.int d), some tot, some v, some (.ref ti), some x, some (.ref tl)] ∧ Told (tabsOf T) "count" v H2 H tl 3, ?_, ?_⟩
    · obtain ⟨xs0, _, hx0, _⟩ := S2.at_l
      refine ⟨.ref tl, rfl, .inl ⟨rfl, _, SqL.of hx0⟩, ?_⟩
      refine ⟨S2.tab, fun HD eD TD HE Q' sE hq => ?_⟩
      have eE : LamX.ExtN H2 HE := LamX.ExtN.trans S2.keep (LamX.ExtN.trans eD (extN_same sE))
      have e0 : LamX.ExtN H HE := LamX.ExtN.trans eH2 eE
      have hT : SqT K HE ti (setV (List.range' 0 d)) := SqT_extN hti2 eE
      refine ⟨_, rfl, v, rfl, .ref ti, rfl, x, rfl, n, v, o, ti, List.range' 0 d, x, m, rfl, by omega, by omega, hT, asc_range' d 0, fun y hy => Nat.lt_of_lt_of_le (mem0 y hy) dn, by rw [List.length_range']; exact dn, ct.ext e0, cx _, fun hN H' d' sH hd' nd' => ⟨d', "count", v, rfl, .inl ⟨rfl, rfl, hd'⟩, fun H3 x s2 nx hx => ?_⟩, fun c e st => absurd no (by rw [e]; intro z; rw [List.length_range'] at st; rw [std_poss st] at z; cases z)⟩
      obtain ⟨ys, hys, yl, S9⟩ := (S2.ext (LamX.ExtN.trans eD (extN_same (sE.trans (sH.trans s2)))) (tabs_same TD (sE.trans (sH.trans s2)))).more hx
      exact ⟨tl, _, _, rfl, rfl, hys, (by rw [yl]; show 2 < sizeLine; decide), tl, rfl, S9⟩
    rintro σ Ha ⟨tl, rfl, S3⟩
    refine ⟨fun σ H => ∃ tl, σ = [some (.int n), some (.int d), some tot, some v, some (.ref ti), some x, some (.ref tl)] ∧ Told (tabsOf T) "count" v H2 H tl 4, ?_, ?_⟩
    · obtain ⟨xs0, _, hx0, _⟩ := S3.at_l
      refine ⟨.ref tl, rfl, .inl ⟨rfl, _, SqL.of hx0⟩, ?_⟩
      refine ⟨S3.tab, fun HD eD TD HE Q' sE hq => ?_⟩
      have eE : LamX.ExtN H2 HE := LamX.ExtN.trans S3.keep (LamX.ExtN.trans eD (extN_same sE))
      have e0 : LamX.ExtN H HE := LamX.ExtN.trans eH2 eE
      have hT : SqT K HE ti (setV (List.range' 0 d)) := SqT_extN hti2 eE
      refine ⟨_, rfl, v, rfl, .ref ti, rfl, n, v, o, ti, List.range' 0 d, rfl, by omega, by omega, hT, by rw [List.length_range']; exact dn, fun y hy => Nat.lt_of_lt_of_le (mem0 y hy) (by omega), ct.ext e0, fun hN H' d' sH hd' nd' => ⟨d', "count", v, rfl, .inl ⟨rfl, rfl, hd'⟩, fun H3 x s2 nx hx => ?_⟩, fun c e st => absurd no (by rw [e]; intro z; rw [List.length_range'] at st; rw [std_poss st] at z; cases z)⟩
      obtain ⟨ys, hys, yl, S9⟩ := (S3.ext (LamX.ExtN.trans eD (extN_same (sE.trans (sH.trans s2)))) (tabs_same TD (sE.trans (sH.trans s2)))).more hx
      exact ⟨tl, _, _, rfl, rfl, hys, (by rw [yl]; show 3 < sizeLine; decide), tl, rfl, S9⟩
    rintro σ Ha ⟨tl, rfl, S4⟩
    have ea : LamX.ExtN H Ha := LamX.ExtN.trans eH2 S4.keep
    obtain ⟨xs, xl, htl, hxs⟩ := S4.at_l
    refine ⟨.ref tl, rfl, .ref tl, _, rfl, told_show htl S4.far xl (by decide) hxs (Item11.ext ea it) nm_count (by decide +kernel) (by decide +kernel) (by decide +kernel), v, rfl, (by show 2 ≤ sizeLine; decide), fun y ny => ?_⟩
    have s1 := same_new (o := .tup [V.str "count", v]) ny
    refine ⟨(by show 1 ≤ sizeLine; decide), fun l1 nl1 => ?_⟩
    have s2 := s1.trans (same_new (o := .lst [V.ref y]) nl1)
    refine ⟨l1, 4, _, rfl, rfl, upd_same, by decide, by decide, (by show 1 * 4 ≤ sizeLine; decide), fun l2 nl2 far2 => ?_⟩
    have s3 := s2.trans (same_new (o := .lst (List.replicate (4 : Int).toNat [V.ref y]).flatten) nl2)
    have hy := (same_new (o := .lst [V.ref y]) nl1).trans (same_new (o := .lst (List.replicate (4 : Int).toNat [V.ref y]).flatten) nl2) _ _ (upd_same (H := Ha) (a := y) (o := .tup [V.str "count", v]))
    refine ⟨.ref l2, _, rfl, told_show (xs := [y, y, y, y]) (k := 4) upd_same far2 rfl (by decide) (fun z hz => by
      have e : z = y := by simpa using hz
      rw [e]
      exact hy) (Item11.ext (LamX.ExtN.trans ea (extN_same s3)) it) nm_count (by decide +kernel) (by decide +kernel) (by decide +kernel), rfl, _, rfl, iteNS rfl ?_⟩
    exact ⟨_, _, rfl, LamX.ExtN.trans e2 (LamX.ExtN.trans S4.keep (extN_same s3)), tabs_same S4.tab s3⟩
end
/-! ### numbers that are refused -/
theorem nm_number : Sh 0 100 (.str "number") := ⟨by decide +kernel, by decide +kernel, by decide +kernel, by decide +kernel, by decide +kernel⟩
def spNr11 (K : PySem.W.Frag) (tabs : List (Addr × Str)) : Sp := fun vs H Q _ => ∃ (n d c : Nat) (v : V) (dv : PyData) (m : Option Int), vs = [.int n, .int d, .int c, v] ∧ Std n d c ∧ c < 2 ^ 500 ∧ Item11 K H v dv ∧ CountV K H v m ∧ numB c m = false ∧ LamX.Tabs tabs H ∧
  ∀ H', LamX.ExtN H H' → LamX.Tabs tabs H' → Q (.bl true) H'
section
variable {P : Program} {w : World} {K : PySem.W.Frag} {mg : Str → Option Value} {base : Heap}
theorem ok_nr11 (T : Txt K mg) (B : TBs T base) {j : Nat} : FnG P w K mg base CX0 (j + 9) T.fNr11 T.fdNr11 ["_law_wide", "_law_tall", "_law_total", "_law_odd"] (spNr11 K (tabsOf T)) := by
  refine Fun_ok0C T.FNr11 T.coNr11 scNr11 (fun vs H Q E h => ?_) (fun A outer s H vs Q E gd hr h => ?_)
  · obtain ⟨n, d, c, v, dv, m, rfl, _⟩ := h
    rfl
  · obtain ⟨n, d, c, v, dv, m, rfl, st, hc, it, ct, no, tab, q⟩ := h
    have hu66 : (A.deeper (envOfC "_law_number_right" (defScope sNr11) s.heap.objs.size T.fNr11 (.ref T.ccNr11))).units + 66 < cLine := by
      have := hr.un
      omega
    refine ⟨_, C8.pss_cut (ps_set (i := 4) scNr11.nd rfl (.inl rfl) (pe_lstN (pa_cons (pe_lam (T := tabsOf T) T.FCaught11 (by rfl) T.gCaught11 T.bCaught11 scCaught11 rfl (Or.inl rfl) (fun cdg => gives_caught11 T rfl rfl) B.tbNr11 rfl (.tail _ (.head _)) (hu3b B.neCr11_Nr11 B.neNr11_Law) hr (LamX.lamS_by (sc := defScope sNr11) (by decide +kernel)) (fun A outer s H E f c' hr => (pe_call (ok_listat T) hr (by rfl) T.gListAt T.FListAt.kp T.bListAt .nil (passes_call (takes_of rfl rfl rfl rfl) (fun _ _ _ _ h => h)) (pa_cons (pv 0) (pa_cons (pv 1) (pa_cons (pv 2) (pa_cons (pv 3) pa_nil))))))) pa_nil))) (C8.pss_cut (ps_expr (pe_bm PySem.F.plainAttrs_list PySem.F.slot_list_append PySem.F.type_list_append mt_append (pv 4) (pa_cons (pe_lam (T := tabsOf T) T.FCaught11 (by rfl) T.gCaught11 T.bCaught11 scCaught11 rfl (Or.inl rfl) (fun cdg => gives_caught11 T rfl rfl) B.tbNr11 rfl (.tail _ (.head _)) (hu3b B.neCr11_Nr11 B.neNr11_Law) hr (LamX.lamS_by (sc := defScope sNr11) (by decide +kernel)) (fun A outer s H E f c' hr => (pe_call (ok_placeat T) hr (by rfl) T.gPlaceAt T.FPlaceAt.kp T.bPlaceAt .nil (passes_call (takes_of rfl rfl rfl rfl) (fun _ _ _ _ h => h)) (pa_cons (pv 0) (pa_cons (pv 1) (pa_cons (pv 2) (pa_cons (pv 3) pa_nil))))))) pa_nil))) (pss_one (ps_ret (pe_cmpR op_eq (pe_callB (call_reprZ K gd hu66) (by rfl) T.n_repr (by decide +kernel) (pa_cons (pv 4) pa_nil)) (pe_callB (call_reprZ K gd hu66) (by rfl) T.n_repr (by decide +kernel) (pa_cons (pe_op op_repN (pe_lst (pa_cons (pe_tup (pa_cons pe_str (pa_cons (pv 3) pa_nil))) pa_nil)) pe_int) pa_nil)) (nomark _))))), ?_⟩
    have cc : ∀ H', CountV K H' (.int c) (some (c : Int)) := fun H' => .inl ⟨c, rfl, rfl⟩
    have pp : possB (leastL n d) (some (c : Int)) = true := std_poss st
    refine ⟨fun σ H1 => ∃ tl, σ = [some (.int n), some (.int d), some (.int c), some v, some (.ref tl)] ∧ Told (tabsOf T) "number" v H H1 tl 1, ?_, ?_⟩
    · refine ⟨tab, fun HD eD TD HE Q' sE hq => ?_⟩
      have eE : LamX.ExtN H HE := LamX.ExtN.trans eD (extN_same sE)
      refine ⟨_, rfl, _, rfl, _, rfl, v, rfl, n, d, .int c, some (c : Int), v, m, rfl, st.n60, st.n1, st.dn, cc _, ct.ext eE, fun hN => absurd (pp.symm.trans hN) (by decide), fun c' e st' => ?_⟩
      obtain rfl : c = c' := by
        have := Option.some.inj e
        omega
      refine ⟨hc, fun _ H' d' sH hd' nd' => ⟨d', "number", v, rfl, .inr ⟨rfl, rfl, hd'⟩, fun H3 x s2 nx hx => ?_⟩, fun k e2 hk => ?_⟩
      · refine ⟨(by show 1 ≤ sizeLine; decide), fun tl ntl farl => ?_⟩
        exact ⟨tl, rfl, Told.one (LamX.ExtN.trans eE (extN_same (sH.trans s2))) (tabs_same TD (sE.trans (sH.trans s2))) hx ntl farl⟩
      · exact by rw [e2, numB_some, decide_eq_true (Int.natCast_nonneg k), decide_eq_true (Int.ofNat_lt.mpr hk)] at no; cases no
    rintro σ Ha ⟨tl, rfl, S1⟩
    refine ⟨fun σ H1 => ∃ tl, σ = [some (.int n), some (.int d), some (.int c), some v, some (.ref tl)] ∧ Told (tabsOf T) "number" v H H1 tl 2, ?_, ?_⟩
    · obtain ⟨xs0, _, hx0, _⟩ := S1.at_l
      refine ⟨.ref tl, rfl, .inl ⟨rfl, _, SqL.of hx0⟩, ?_⟩
      refine ⟨S1.tab, fun HD eD TD HE Q' sE hq => ?_⟩
      have eE : LamX.ExtN H HE := LamX.ExtN.trans S1.keep (LamX.ExtN.trans eD (extN_same sE))
      refine ⟨_, rfl, _, rfl, _, rfl, v, rfl, n, d, .int c, some (c : Int), v, m, rfl, st.n60, st.n1, st.dn, cc _, ct.ext eE, fun hN => absurd (pp.symm.trans hN) (by decide), fun c' e st' => ?_⟩
      obtain rfl : c = c' := by
        have := Option.some.inj e
        omega
      refine ⟨hc, fun _ H' d' sH hd' nd' => ⟨d', "number", v, rfl, .inr ⟨rfl, rfl, hd'⟩, fun H3 x s2 nx hx => ?_⟩, fun k e2 hk => ?_⟩
      · obtain ⟨ys, hys, yl, S9⟩ := (S1.ext (LamX.ExtN.trans eD (extN_same (sE.trans (sH.trans s2)))) (tabs_same TD (sE.trans (sH.trans s2)))).more hx
        exact ⟨tl, _, _, rfl, rfl, hys, (by rw [yl]; show 1 < sizeLine; decide), tl, rfl, S9⟩
      · exact by rw [e2, numB_some, decide_eq_true (Int.natCast_nonneg k), decide_eq_true (Int.ofNat_lt.mpr hk)] at no; cases no
    rintro σ Ha ⟨tl, rfl, S4⟩
    obtain ⟨xs, xl, htl, hxs⟩ := S4.at_l
    refine ⟨.ref tl, rfl, .ref tl, _, rfl, told_show htl S4.far xl (by decide) hxs (Item11.ext S4.keep it) nm_number (by decide +kernel) (by decide +kernel) (by decide +kernel), v, rfl, (by show 2 ≤ sizeLine; decide), fun y ny => ?_⟩
    have s1 := same_new (o := .tup [V.str "number", v]) ny
    refine ⟨(by show 1 ≤ sizeLine; decide), fun l1 nl1 => ?_⟩
    have s2 := s1.trans (same_new (o := .lst [V.ref y]) nl1)
    refine ⟨l1, 2, _, rfl, rfl, upd_same, by decide, by decide, (by show 1 * 2 ≤ sizeLine; decide), fun l2 nl2 far2 => ?_⟩
    have s3 := s2.trans (same_new (o := .lst (List.replicate (2 : Int).toNat [V.ref y]).flatten) nl2)
    have hy := (same_new (o := .lst [V.ref y]) nl1).trans (same_new (o := .lst (List.replicate (2 : Int).toNat [V.ref y]).flatten) nl2) _ _ (upd_same (H := Ha) (a := y) (o := .tup [V.str "number", v]))
    refine ⟨.ref l2, _, rfl, told_show (xs := [y, y]) (k := 2) upd_same far2 rfl (by decide) (fun z hz => by
      have e : z = y := by simpa using hz
      rw [e]
      exact hy) (Item11.ext (LamX.ExtN.trans S4.keep (extN_same s3)) it) nm_number (by decide +kernel) (by decide +kernel) (by decide +kernel), rfl, ?_⟩
    rw [decide_eq_true rfl]
    exact q _ (LamX.ExtN.trans S4.keep (extN_same s3)) (tabs_same S4.tab s3)
end
/-! ### the text of a number is fit to be shown -/
theorem ofString_small (s : String) : ∀ c ∈ (Str.ofString s).cps.toList, c < 0x110000 := fun c hc => by
  rw [Str.ofString_eq_toList] at hc
  obtain ⟨ch, _, rfl⟩ := List.mem_map.mp hc
  have h := ch.valid
  rcases h with h | h
  · exact Nat.lt_of_lt_of_le h (by decide)
  · exact h.2
theorem sh_text {i : Int} {b : Nat} (h0 : 0 < b) (h6 : b ≤ 600) (h : i.natAbs < 2 ^ b) : Sh 0 200 (.str (Str.ofString (toString i))) := by
  have h1 : i.natAbs < 10 ^ 199 := Nat.lt_of_lt_of_le h (Nat.le_trans (Nat.pow_le_pow_right (by decide) h6) (by decide +kernel))
  have e := int_text_length_le10 (k := 199) (by decide) h1
  have sm := ofString_small (toString i)
  refine ⟨?_, Nat.le_refl _, rfl, ?_, ?_⟩
  · show (Str.ofString (toString i)).cps.all (· < 0x110000) = true
    rw [← Array.all_toList, List.all_eq_true]
    exact fun c hc => decide_eq_true (sm c hc)
  · show ((Str.ofString (toString i)).cps.toList.all fun c => decide (c < 16 ^ 8)) = true
    rw [List.all_eq_true]
    exact fun c hc => decide_eq_true (Nat.lt_trans (sm c hc) (by decide))
  · show (Str.ofString (toString i)).length ≤ 200
    rw [PySem.ofString_length]
    exact e
theorem log_leastS {n d : Nat} (h1 : 1 ≤ n) (h6 : n ≤ 60) (hd : d ≤ n) : ((leastL n d : Nat) : Int).natAbs.log2 < 1920 := by
  have h := leastL_lt h1 h6 hd
  have h2 := PySem.Flt.log2_lt_of (n := leastL n d) (k := 100) (by decide) h
  rw [Int.natAbs_natCast]
  omega
/-! ### a law's own numbers beside tables that grow -/
theorem extN_rows {H H' : Hp} {p : Addr} {rs : List Addr} (R : RowsAt H p rs) (s : LamX.ExtN H H') : RowsAt H' p rs := ⟨s _ _ R.at_p (fun _ z => by cases z), fun i r e => s _ _ (R.row i r e) (fun _ z => by cases z)⟩
/-- a law's own numbers beside tables that grow -/
structure P28 (tabs : List (Addr × Str)) (H0 H : Hp) (p pr : Addr) (rs : List Addr) (m : Nat) : Prop where
  pot : PotAt H p m
  row : RowsAt (hide p H) pr rs
  tab : LamX.Tabs tabs H
  keep : LamX.ExtN H0 H
  no : H0 p = none
section
variable {tabs : List (Addr × Str)} {H0 H H' : Hp} {p pr : Addr} {rs : List Addr} {m m' : Nat}
theorem hide_ext (e : LamX.ExtN H H') : LamX.ExtN (hide p H) (hide p H') := fun b o z n => by
  by_cases c : b = p
  · subst c
    unfold hide at z
    rw [if_pos rfl] at z
    cases z
  · rw [hide_ne c] at z ⊢
    exact e _ _ z n
theorem hide_but (e : But p H H') : LamX.ExtN (hide p H) (hide p H') := fun b o z n => by
  by_cases c : b = p
  · subst c
    unfold hide at z
    rw [if_pos rfl] at z
    cases z
  · rw [hide_ne c] at z ⊢
    exact e _ _ c z
theorem PotAt.ext (h : PotAt H p m) (e : LamX.ExtN H H') : PotAt H' p m := by
  obtain ⟨a, b, c, h1, h2⟩ := h
  exact ⟨a, b, c, extN_lst e h1, h2⟩
theorem P28.ext (S : P28 tabs H0 H p pr rs m) (e : LamX.ExtN H H') (t : LamX.Tabs tabs H') : P28 tabs H0 H' p pr rs m := ⟨S.pot.ext e, extN_rows S.row (hide_ext e), t, LamX.ExtN.trans S.keep e, S.no⟩
theorem P28.same (S : P28 tabs H0 H p pr rs m) (s : Same H H') : P28 tabs H0 H' p pr rs m := S.ext (extN_same s) (tabs_same S.tab s)
theorem P28.to (S : P28 tabs H0 H p pr rs m) (b : But p H H') (P : PotAt H' p m') : P28 tabs H0 H' p pr rs m' := by
  obtain ⟨x, y, z, e, _⟩ := S.pot
  exact ⟨P, extN_rows S.row (hide_but b), tabs_but S.tab e b, fun q o h n => b q o (ne_of_none h S.no) (S.keep q o h n), S.no⟩
theorem P28.rows (S : P28 tabs H0 H p pr rs m) : RowsAt H pr rs := extN_rows S.row (extN_same (hide_same p H))
end
theorem with_heap28 {G : Hp → Prop} {H : Hp} (R : Hp → Prop) (h1 : R H) (h2 : ∀ H', R H' → G H') : G H := h2 H h1
/-! ### the law -/
theorem C_n1 : ∀ n : Nat, C n 1 = n
  | 0 => rfl
  | n + 1 => by
    rw [C_ss, C_zero, C_n1 n]
    omega
theorem poss_not {L m : Nat} (h : ¬ L ∣ m) : possB L (some (m : Int)) = false := by
  rw [possB_some, decide_eq_false (p := (m : Int) % (L : Int) = 0), Bool.and_false]
  intro z
  exact h (Int.natCast_dvd_natCast.mp (Int.dvd_of_emod_eq_zero z))
theorem num_big {c : Nat} {i : Int} (h : (c : Int) ≤ i) : numB c (some i) = false := by
  rw [numB_some, decide_eq_false (p := i < (c : Int)) (by omega), Bool.and_false]
def Odd11 (K : PySem.W.Frag) (R : Option Int → Prop) (H : Hp) (v : V) : Prop := ∃ d o, Item11 K H v d ∧ CountV K H v o ∧ R o
theorem odd11_int {K : PySem.W.Frag} {R : Option Int → Prop} {H : Hp} {i : Int} (h : i.natAbs < 2 ^ 500) (r : R (some i)) : Odd11 K R H (.int i) := ⟨.int i, some i, .inl ⟨.int i, (Sh.int (b := 500) (by decide) (by decide) h).mono (by decide) (by decide)⟩, .inl ⟨i, rfl, rfl⟩, r⟩
theorem odd11_no {K : PySem.W.Frag} {R : Option Int → Prop} {H : Hp} {v : V} {d : PyData} {t : String} (r : R none) (h : Item11 K H v d) (h1 : t ∈ tyNames) (h2 : (t == "int") = false) (h3 : TyX K H v (.type t)) : Odd11 K R H v := ⟨d, none, h, .inr ⟨rfl, t, h1, h2, h3⟩, r⟩
theorem Odd11.ext {K : PySem.W.Frag} {R : Option Int → Prop} {H H' : Hp} {v : V} (e : LamX.ExtN H H') (h : Odd11 K R H v) : Odd11 K R H' v := by
  obtain ⟨d, o, h1, h2, h3⟩ := h
  exact ⟨d, o, Item11.ext e h1, CountV.ext e h2, h3⟩
section
variable {K : PySem.W.Frag} {R : Option Int → Prop} {H : Hp}
theorem odd11_bl (r : R none) (b : Bool) : Odd11 K R H (.bl b) := odd11_no r (t := "bool") (.inl ⟨.bl _, (Sh.bool _).mono (Nat.zero_le _) (Nat.zero_le _)⟩) (by decide) rfl (.base (.bl _))
theorem odd11_non (r : R none) : Odd11 K R H .non := odd11_no r (t := "NoneType") (.inl ⟨.non, Sh.none.mono (Nat.zero_le _) (Nat.zero_le _)⟩) (by decide) rfl (.base .non)
theorem odd11_str (r : R none) {x : Str} (s : Sh 40 10000 (.str x)) : Odd11 K R H (.str x) := odd11_no r (t := "str") (.inl ⟨.str _, s⟩) (by decide) rfl (.base (.str _))
theorem odd11_lst (r : R none) {e : Addr} (he : H e = some (.lst [])) : Odd11 K R H (.ref e) := odd11_no r (t := "list") (.inl ⟨.lst (SqL.of he) .nil, (Sh.lst ShAll.nil).mono (by decide) (by decide)⟩) (by decide) rfl (.base (.lst he))
theorem odd11_dic (r : R none) {e : Addr} (he : H e = some (.dK [])) : Odd11 K R H (.ref e) := odd11_no r (t := "dict") (.inr ⟨rfl, e, rfl, he⟩) (by decide) rfl (.base (.dK he))
theorem odd11_tup1 (r : R none) {e : Addr} {i : Int} (h : i.natAbs < 2 ^ 500) (he : H e = some (.tup [.int i])) : Odd11 K R H (.ref e) := odd11_no r (t := "tuple") (.inl ⟨.tup (SqT.of he) (.cons (.int _) .nil), (Sh.tup (ShAll.cons ((Sh.int (b := 500) (by decide) (by decide) h).mono (dp' := 1) (wt' := 500) (by decide) (by decide)) (ShAll.nil.mono (by decide) (Nat.le_refl _)))).mono (by decide) (by decide)⟩) (by decide) rfl (.base (.tup he))
theorem odd11_tup0 (r : R none) {e : Addr} (he : H e = some (.tup [])) : Odd11 K R H (.ref e) := odd11_no r (t := "tuple") (.inl ⟨.tup (SqT.of he) .nil, (Sh.tup ShAll.nil).mono (by decide) (by decide)⟩) (by decide) rfl (.base (.tup he))
end
def spLaw (K : PySem.W.Frag) (tabs : List (Addr × Str)) : Sp := fun vs H Q _ => ∃ (a : Addr) (ns : List Int), vs = [.ref a] ∧ SqL K H a (ns.map V.int) ∧ ns.length ≤ 63 ∧ LamX.Tabs tabs H ∧ ∀ H', Q (.bl true) H'
section
variable {P : Program} {w : World} {K : PySem.W.Frag} {mg : Str → Option Value} {base : Heap}
theorem ok_law {f : Addr} {fd : FuncData} (F : Fun K "law" "law" sLaw f fd) (T : Txt K mg) (co : CodeOf K f T.ccLaw) (B : TBs T base) : FnG P w K mg base CX0 11 f fd ["_law_script"] (spLaw K (tabsOf T)) := by
  refine Fun_ok0C F co scLaw (fun vs H Q E h => ?_) (fun A outer s H vs Q E gd hr h => ?_)
  · obtain ⟨a, ns, rfl, _⟩ := h
    rfl
  · obtain ⟨a, ns, rfl, hS, hlen, hT0, q⟩ := h
    have hu66 : (A.deeper (envOfC "law" (defScope sLaw) s.heap.objs.size f (.ref T.ccLaw))).units + 66 < cLine := by
      have := hr.un
      omega
    have hu64 : (A.deeper (envOfC "law" (defScope sLaw) s.heap.objs.size f (.ref T.ccLaw))).units + 64 < cLine := by omega
    refine ⟨_, pss_cons (ps_set (i := 1) scLaw.nd rfl (.inl rfl) (pe_call0 (ok_rows T) hr (by rfl) T.gRows T.FRows.kp T.bRows .nil pass0)) (pss_cons (ps_for PassesOwn.never rfl (pi_range1 (by rfl) T.n_range (pa_cons (pe_callB (call_max2 rfl) (by rfl) T.n_max (by decide +kernel) (pa_cons pe_int (pa_cons (pe_callB (call_min2 rfl) (by rfl) T.n_min (by decide +kernel) (pa_cons pe_int (pa_cons (pe_callB (call_lenK K) (by rfl) T.n_len PySem.boot_len (pa_cons (pv 0) pa_nil)) pa_nil))) pa_nil))) pa_nil)) (pg_name (i := 2) scLaw.nd rfl (.inl rfl)) (pss_cons (ps_set (i := 3) scLaw.nd rfl (.inl rfl) (pe_call (ok_pot T) hr (by rfl) T.gPot T.FPot.kp T.bPot .nil pass0 (pa_cons (pv 0) (pa_cons (pv 2) pa_nil)))) (pss_one (ps_for PassesOwn.never rfl (pi_range1 (by rfl) T.n_range (pa_cons pe_int pa_nil)) (pg_name (i := 4) scLaw.nd rfl (.inl rfl)) (pss_cons (ps_set (i := 5) scLaw.nd rfl (.inr rfl) (pe_op op_add pe_int (pe_call (ok_of T) hr (by rfl) T.gOf T.FOf.kp T.bOf .nil pass0 (pa_cons (pv 3) (pa_cons (pe_lst (pa_cons (pe_call (ok_take T) hr (by rfl) T.gTake T.FTake.kp T.bTake .nil pass0 (pa_cons (pv 3) (pa_cons pe_int pa_nil))) (pa_cons (pe_call (ok_take T) hr (by rfl) T.gTake T.FTake.kp T.bTake .nil pass0 (pa_cons (pv 3) (pa_cons pe_int pa_nil))) pa_nil))) pa_nil))))) (pss_cons (ps_set (i := 6) scLaw.nd rfl (.inr rfl) (pe_op op_add pe_int (pe_call (ok_take T) hr (by rfl) T.gTake T.FTake.kp T.bTake .nil pass0 (pa_cons (pv 3) (pa_cons (pe_op op_sub (pv 5) pe_int) pa_nil))))) (pss_cons (ps_set (i := 7) scLaw.nd rfl (.inr rfl) (pe_call (ok_least T) hr (by rfl) T.gLeast T.FLeast.kp T.bLeast .nil pass0 (pa_cons (pv 1) (pa_cons (pv 5) (pa_cons (pv 6) pa_nil))))) (pss_cons (ps_asg (pe_tup (pa_cons (pe_op op_mul (pv 7) (pe_op op_add pe_int (pe_call (ok_take T) hr (by rfl) T.gTake T.FTake.kp T.bTake .nil pass0 (pa_cons (pv 3) (pa_cons pe_int pa_nil))))) (pa_cons (pe_op op_fdivW (pv 7) (pe_ix (ix_listK K) (pe_ix (ix_listK K) (pv 1) (pv 5) (fun _ _ => rfl)) (pv 6) (fun _ _ => rfl))) pa_nil))) (pg_tup rfl (pgs_cons (pg_name (i := 8) scLaw.nd rfl (.inr rfl)) (pgs_cons (pg_name (i := 9) scLaw.nd rfl (.inl rfl)) pgs_nil)))) (pss_cons (ps_set (i := 10) scLaw.nd rfl (.inl rfl) (pe_lst (pa_cons pe_int (pa_cons (pe_un un_neg (pv 7)) (pa_cons (pe_op op_add (pv 7) pe_int) (pa_cons pe_bl (pa_cons pe_bl (pa_cons pe_non (pa_cons pe_str (pa_cons (pe_callTy call_str_int (by rfl) T.n_str (by decide +kernel) (pa_cons (pv 7) pa_nil)) (pa_cons (pe_tup (pa_cons (pv 7) pa_nil)) (pa_cons (pe_lst pa_nil) (pa_cons pe_dnewK (pa_cons pe_int pa_nil)))))))))))))) (pss_cons (ps_if (pt_not (pt_val (pe_callB (cr_allK K) (by rfl) T.n_all (by decide +kernel) (pa_cons (pe_lc (own := [("_law_one", 11)]) (g := (gName 11)) (tt := tYes) rfl scLaw.nd (pi_list (pv 10)) (blkOk_by (own := [("_law_one", 11)]) (N := NLaw) (sc := defScope sLaw) (by decide +kernel)) (fun _ _ _ _ _ => (pg_name (i := 11) scLaw.nd rfl (.inl rfl))) (fun _ _ _ _ _ => pts_nil) (fun _ _ _ _ _ => (pe_callG (ok_cr11 T B) gd hr (by rfl) T.gCr11 T.FCr11.kp T.bCr11 pass0 (pa_cons (pv 5) (pa_cons (pv 6) (pa_cons (pv 8) (pa_cons (pv 11) pa_nil))))))) pa_nil)))) (pss_one (ps_ret pe_bl)) pss_nil) (pss_cons (ps_set (i := 10) scLaw.nd rfl (.inl rfl) (pe_lst (pa_cons (pv 8) (pa_cons (pe_op op_add (pv 8) pe_int) (pa_cons (pe_un un_neg pe_int) (pa_cons pe_bl (pa_cons pe_bl (pa_cons pe_non (pa_cons pe_str (pa_cons (pe_tup (pa_cons pe_int pa_nil)) (pa_cons (pe_lst pa_nil) (pa_cons pe_dnewK (pa_cons (pe_op op_pow pe_int pe_int) pa_nil))))))))))))) (pss_cons (ps_if (pt_not (pt_val (pe_callB (cr_allK K) (by rfl) T.n_all (by decide +kernel) (pa_cons (pe_lc (own := [("_law_one", 11)]) (g := (gName 11)) (tt := tYes) rfl scLaw.nd (pi_list (pv 10)) (blkOk_by (own := [("_law_one", 11)]) (N := NLaw) (sc := defScope sLaw) (by decide +kernel)) (fun _ _ _ _ _ => (pg_name (i := 11) scLaw.nd rfl (.inl rfl))) (fun _ _ _ _ _ => pts_nil) (fun _ _ _ _ _ => (pe_callG (ok_nr11 T B) gd hr (by rfl) T.gNr11 T.FNr11.kp T.bNr11 pass0 (pa_cons (pv 5) (pa_cons (pv 6) (pa_cons (pv 8) (pa_cons (pv 11) pa_nil))))))) pa_nil)))) (pss_one (ps_ret pe_bl)) pss_nil) (pss_cons (ps_for PassesOwn.never rfl (pi_tup (pe_tup (pa_cons (pv 9) (pa_cons (pe_un un_neg pe_int) (pa_cons pe_bl (pa_cons pe_non (pa_cons pe_str (pa_cons (pe_tup pa_nil) (pa_cons (pe_op op_pow pe_int pe_int) pa_nil))))))))) (pg_name (i := 11) scLaw.nd rfl (.inr rfl)) (pss_one (ps_if (pt_cmpR (op_neDK K hu64) (pe_lam (T := tabsOf T) T.FCaught11 (by rfl) T.gCaught11 T.bCaught11 scCaught11 rfl (Or.inl rfl) (fun cdg => gives_caught11 T rfl rfl) B.tbLaw rfl (.tail _ (.tail _ (.head _))) (hu3c B.neCr11_Law B.neNr11_Law) hr (LamX.lamS_by (sc := defScope sLaw) (by decide +kernel)) (fun A outer s H E f c' hr => (pe_call (ok_numat T) hr (by rfl) T.gNumAt T.FNumAt.kp T.bNumAt .nil (passes_call (takes_of rfl rfl rfl rfl) (fun _ _ _ _ h => h)) (pa_cons (pv 5) (pa_cons (pv 7) (pa_cons (pe_tupRg rfl (by rfl) T.n_tuple (prg_1 (by rfl) T.n_range (pv 6))) (pa_cons (pv 11) pa_nil))))))) (pe_tup (pa_cons pe_str (pa_cons (pv 11) pa_nil))) (nomark _)) (pss_one (ps_ret pe_bl)) pss_nil))) (pss_one (ps_if (pt_cmpR (op_neDK K hu64) (pe_lam (T := tabsOf T) T.FCaught11 (by rfl) T.gCaught11 T.bCaught11 scCaught11 rfl (Or.inl rfl) (fun cdg => gives_caught11 T rfl rfl) B.tbLaw rfl (.tail _ (.tail _ (.head _))) (hu3c B.neCr11_Law B.neNr11_Law) hr (LamX.lamS_by (sc := defScope sLaw) (by decide +kernel)) (fun A outer s H E f c' hr => (pe_call (ok_listat T) hr (by rfl) T.gListAt T.FListAt.kp T.bListAt .nil (passes_call (takes_of rfl rfl rfl rfl) (fun _ _ _ _ h => h)) (pa_cons (pv 5) (pa_cons pe_int (pa_cons (pv 5) (pa_cons pe_int pa_nil))))))) (pe_tup (pa_cons pe_str (pa_cons (pv 5) pa_nil))) (nomark _)) (pss_one (ps_ret pe_bl)) pss_nil))))))))))))))) (pss_one (ps_ret (pe_cmpR (op_eqDK K hu64) (pe_call (ok_listat T) hr (by rfl) T.gListAt T.FListAt.kp T.bListAt .nil passF (pa_cons pe_int (pa_cons pe_int (pa_cons pe_int (pa_cons pe_int pa_nil))))) (pe_tup (pa_cons pe_int pa_nil)) (nomark _))))), ?_⟩
    refine ⟨rfl, fun H1 pr rs s1 fpr hl R1 => ?_⟩
    refine ⟨.ref a, rfl, a, _, rfl, .inl (s1.seq hS), _, _, rfl, _, _, rfl, _, rfl, ?_, ?_, ?_⟩
    · split <;> split <;> omega
    · split <;> split <;> omega
    refine for_range (lo := 0) (fun i σ H2 => ∃ v2 v3 v4 v5 v6 v7 v8 v9 v10 v11, σ = [some (.ref a), some (.ref pr), v2, v3, v4, v5, v6, v7, v8, v9, v10, v11] ∧ LamX.ExtN H1 H2 ∧ LamX.Tabs (tabsOf T) H2) ⟨none, none, none, none, none, none, none, none, none, none, rfl, LamX.ExtN.refl H1, tabs_same hT0 s1⟩ ?_ ?_
    rotate_left
    · rintro σ H2 ⟨v2, v3, v4, v5, v6, v7, v8, v9, v10, v11, rfl, s2, T2⟩
      have st : Std 3 1 3 := ⟨by decide, by decide, by decide, by decide, by decide +kernel⟩
      refine spListAt_ok (c := 3) (k := 2) st (by decide) (by decide +kernel) fun H8 t8 s8 nt8 ht8 => ?_
      refine ⟨by show 1 ≤ sizeLine; decide, fun x nx => ?_⟩
      have e : (path 3 1 3 2).1 = [2] := by decide +kernel
      rw [e] at ht8
      exact eqD_same (d := .tuple (natD [2])) (.tup (SqT.of (same_new nx _ _ ht8)) (dp_set _)) (.tup (SqT.of upd_same) (dp_set [2])) ((sh_list (by decide) (by decide)).mono (by decide) (by decide)) (q _)
    rintro i σ H2 hi ⟨v2, v3, v4, v5, v6, v7, v8, v9, v10, v11, rfl, s2, T2⟩
    have hi3 : i < 3 := by
      refine Nat.lt_of_lt_of_le hi ?_
      split <;> split <;> omega
    rw [Int.zero_add]
    refine ⟨.ref a, rfl, _, rfl, a, ns, i, rfl, SqL_extN (s1.seq hS) s2, by omega, fun H3 p s3 np P3 => ?_⟩
    have S3 : P28 (tabsOf T) H2 H3 p pr rs 0 := ⟨P3, extN_rows (extN_rows R1 s2) (fun b o e z => by rw [hide_ne (ne_of_none e np)]; exact s3 b o e), tabs_same T2 s3, extN_same s3, np⟩
    refine ⟨4, rfl, by omega, by decide, ?_⟩
    refine for_range (lo := 0) (fun j σ H => ∃ v4 v5 v6 v7 v8 v9 v10 v11, σ = [some (.ref a), some (.ref pr), some (.int (i : Int)), some (.ref p), v4, v5, v6, v7, v8, v9, v10, v11] ∧ P28 (tabsOf T) H2 H p pr rs (100 * j)) ⟨_, _, _, _, _, _, _, _, rfl, S3⟩ ?_ ?_
    rotate_left
    · rintro σ H4 ⟨v4, v5, v6, v7, v8, v9, v10, v11, rfl, S4⟩
      exact ⟨_, _, _, _, _, _, _, _, _, _, rfl, LamX.ExtN.trans s2 S4.keep, S4.tab⟩
    rintro j σ H4 hj ⟨v4, v5, v6, v7, v8, v9, v10, v11, rfl, S4⟩
    have hj8 : j < 4 := hj
    -- wide, tall
    refine ⟨.ref p, rfl, .ref p, rfl, p, _, 4, rfl, S4.pot, by omega, by decide, by decide +kernel, fun r1 H5 r10 r1l P5 B5 => ?_⟩
    refine ⟨.ref p, rfl, p, _, 58, rfl, P5, by omega, by decide, by decide +kernel, fun r2 H6 r20 r2l P6 B6 => ?_⟩
    refine ⟨by show 2 ≤ sizeLine; decide, fun l nl => ?_⟩
    have S6 := (S4.to B5 P5).to B6 P6
    have S7 := S6.same (same_new (o := .lst [V.int r1, V.int r2]) nl)
    have nlp : l ≠ p := fun z => by
      obtain ⟨x, y, c, e, _⟩ := P6
      rw [z, e] at nl
      cases nl
    refine ⟨p, _, l, _, rfl, S7.pot, by omega, upd_same, nlp, (by show 1 ≤ 2; decide), (by show 2 ≤ 1000; decide), fun v H8 hv P8 B8 => ?_⟩
    have S8 := S7.to B8 P8
    obtain ⟨r, rfl, r0, rl⟩ : ∃ r : Int, v = .int r ∧ 0 ≤ r ∧ r < 58 := by
      rcases List.mem_cons.mp hv with rfl | hv
      · exact ⟨r1, rfl, r10, by omega⟩
      · rcases List.mem_cons.mp hv with rfl | hv
        · exact ⟨r2, rfl, r20, r2l⟩
        · cases hv
    obtain ⟨k1, rfl⟩ := Int.eq_ofNat_of_zero_le r0
    refine ⟨_, _, rfl, rfl, ?_⟩
    dsimp only [gName]
    rw [show (3 : Int) + (k1 : Int) = ((3 + k1 : Nat) : Int) by omega]
    generalize hn0 : 3 + k1 = n
    refine ⟨.ref p, rfl, _, rfl, _, _, rfl, rfl, p, _, (n : Int) - 1, rfl, S8.pot, by omega, by omega, Int.lt_trans (show (n : Int) - 1 < 100 by omega) (by decide +kernel), fun r3 H9 r30 r3l P9 B9 => ⟨_, _, rfl, rfl, ?_⟩⟩
    obtain ⟨k3, rfl⟩ := Int.eq_ofNat_of_zero_le r30
    dsimp only [gName]
    rw [show (2 : Int) + (k3 : Int) = ((2 + k3 : Nat) : Int) by omega]
    generalize hu0 : 2 + k3 = d
    have S9 := S8.to B9 P9
    have bn : 3 ≤ n ∧ n ≤ 60 ∧ 2 ≤ d ∧ d ≤ n := by omega
    clear S3 S4 S6 S7 S8 B5 B6 B8 B9 P5 P6 P8 P9 hv nl nlp r0 rl r10 r1l r20 r2l r30 r3l
    obtain ⟨n3, n6, d2, dn⟩ := bn
    -- the least number
    refine ⟨.ref pr, rfl, _, rfl, _, rfl, pr, rs, n, d, rfl, S9.rows, hl, by omega, by omega, by omega, ?_⟩
    have Lb : leastL n d < 2 ^ 100 := leastL_lt (by omega) (by omega) (by omega)
    have Llog := log_leastS (n := n) (d := d) (by omega) (by omega) (by omega)
    have Lsh := sh_text (i := ((leastL n d : Nat) : Int)) (b := 100) (by decide) (by decide) (by rw [Int.natAbs_natCast]; exact Lb)
    have Ln : n ∣ leastL n d := Nat.dvd_trans (Nat.dvd_mul_right _ _) (leastL_dvd dn 0 (by omega))
    have Lp : 0 < leastL n d := leastL_pos dn
    have L3 : 3 ≤ leastL n d := Nat.le_trans n3 (Nat.le_of_dvd Lp Ln)
    have stL : Std n d (leastL n d) := ⟨n6, by omega, dn, Lp, Nat.dvd_refl _⟩
    obtain ⟨L, eL⟩ : ∃ L, L = leastL n d := ⟨_, rfl⟩
    dsimp only [gName]
    rw [← eL] at Lb Llog Lsh Ln Lp L3 stL ⊢
    -- the numbers
    refine ⟨_, rfl, .ref p, rfl, p, _, 20, rfl, S9.pot, by omega, by decide, by decide +kernel, fun r5 H10 r50 r5l P10 B10 => ⟨_, _, rfl, rfl, ?_⟩⟩
    obtain ⟨k5, rfl⟩ := Int.eq_ofNat_of_zero_le r50
    have S10 := S9.to B10 P10
    obtain ⟨rr, er, hr2⟩ := S10.rows.at (K := K) hl (show n < 61 by omega)
    have C0 := C_pos n d dn
    have C6 := C_60 n d n6
    dsimp only
    rw [show (1 : Int) + (k5 : Int) = ((1 + k5 : Nat) : Int) by omega]
    generalize ht5 : 1 + k5 = t5
    refine ⟨_, _, rfl, rfl, .inr ⟨by omega, by omega⟩, ?_⟩
    dsimp only
    rw [show (L : Int) * (t5 : Int) = ((L * t5 : Nat) : Int) from (Int.natCast_mul _ _).symm]
    refine ⟨_, rfl, .ref pr, rfl, _, rfl, pr, _, _, _, rfl, rfl, SqL.of S10.rows.at_p, er, _, rfl, rr, _, _, _, rfl, rfl, hr2, atI_nat (rowV_at n (show d < 61 by omega)), _, _, rfl, rfl, wide_div (b := 64) (by omega) (by omega) (by decide) (by decide), (by show 2 ≤ sizeLine; decide), fun t nt => ?_⟩
    dsimp only
    rw [show (L : Int) / (C n d : Int) = ((L / C n d : Nat) : Int) from (Int.natCast_ediv _ _).symm]
    have S11 := S10.same (same_new (o := .tup [V.int ((L * t5 : Nat) : Int), V.int ((L / C n d : Nat) : Int)]) nt)
    have htt : (upd H10 t (.tup [V.int ((L * t5 : Nat) : Int), V.int ((L / C n d : Nat) : Int)])) t = some (.tup [V.int ((L * t5 : Nat) : Int), V.int ((L / C n d : Nat) : Int)]) := upd_same
    generalize upd H10 t (.tup [V.int ((L * t5 : Nat) : Int), V.int ((L / C n d : Nat) : Int)]) = H11 at S11 htt ⊢
    refine ⟨t, _, rfl, SqT.of htt, rfl, _, _, rfl, _, _, rfl, rfl, ?_⟩
    have cb : L * t5 ≤ 20 * 2 ^ 100 := Nat.le_trans (Nat.mul_le_mul (Nat.le_of_lt Lb) (show t5 ≤ 20 by omega)) (by rw [Nat.mul_comm]; exact Nat.le_refl _)
    have stC : Std n d (L * t5) := ⟨n6, by omega, dn, Nat.mul_pos Lp (by omega), Nat.dvd_trans (by rw [eL]; exact Nat.dvd_refl _) (Nat.dvd_mul_right L t5)⟩
    have fb : L / C n d ≤ L := Nat.div_le_self _ _
    generalize L * t5 = c at cb stC ⊢
    generalize hfew : L / C n d = few at fb ⊢
    clear S9 S10 P10 B10 er hr2 htt nt
    have p1 : (2 : Nat) ^ 100 < 2 ^ 499 := by decide +kernel
    have p2 : (2 : Nat) ^ 500 = 2 ^ 499 + 2 ^ 499 := by decide +kernel
    have p3 : (20 : Nat) * 2 ^ 100 < 2 ^ 499 := by decide +kernel
    have p4 : (100000 : Nat) < 2 ^ 499 := by decide +kernel
    have p5 : (20 : Nat) * 2 ^ 100 < 10 ^ 40 := by decide +kernel
    -- counts
    refine ⟨_, rfl, _, rfl, _, rfl, _, _, rfl, rfl, _, rfl, _, rfl, Llog, _, rfl, (by show 1 ≤ sizeLine; decide), fun t nt => ⟨Nat.zero_le _, fun e ne => fun dd nd => ?_⟩⟩
    refine ⟨(by show 12 ≤ sizeLine; decide), fun l1 nl1 => ?_⟩
    have s2 := same_new (o := .tup [V.int (L : Int)]) nt
    have s3 := same_new (o := .lst []) ne
    have s4 := same_new (o := .dK []) nd
    have s6 := same_new (o := .lst [V.int 0, V.int (-(L : Int)), V.int ((L : Int) + 1), V.bl true, V.bl false, V.non, V.str "", V.str (Str.ofString (toString (L : Int))), V.ref t, V.ref e, V.ref dd, V.int 1]) nl1
    have ht := s6 _ _ (s4 _ _ (s3 _ _ (upd_same (H := H11) (a := t) (o := .tup [V.int (L : Int)]))))
    have he := s6 _ _ (s4 _ _ (upd_same (a := e) (o := .lst [])))
    have hd := s6 _ _ (upd_same (a := dd) (o := .dK []))
    refine with_heap28 (fun H' => P28 (tabsOf T) H2 H' p pr rs (100 * j + 1 + 1 + 1 + 1 + 1) ∧ ∃ xs, H' l1 = some (.lst xs) ∧ xs.length = 12 ∧ ∀ v ∈ xs, Odd11 K (fun o => possB (leastL n d) o = false) H' v) ⟨S11.same (((s2.trans s3).trans s4).trans s6), _, upd_same, rfl, ?_⟩ ?_
    · rw [← eL]
      have n1 : ¬ L ∣ 1 := fun z => by
        have := Nat.le_of_dvd (by decide) z
        omega
      intro v hv
      generalize (2 : Nat) ^ 100 = q100 at Lb cb p1 p3 p5
      generalize (2 : Nat) ^ 499 = q499 at p1 p2 p3 p4
      rcases List.mem_cons.mp hv with rfl | hv
      · exact odd11_int (by decide +kernel) (by rw [possB_some]; rfl)
      rcases List.mem_cons.mp hv with rfl | hv
      · exact odd11_int (by rw [p2]; omega) (by rw [possB_some, decide_eq_false (by omega)]; rfl)
      rcases List.mem_cons.mp hv with rfl | hv
      · exact odd11_int (by rw [p2]; omega) (poss_not (m := L + 1) fun z => n1 ((Nat.dvd_add_right (Nat.dvd_refl L)).mp z))
      rcases List.mem_cons.mp hv with rfl | hv
      · exact odd11_bl (R := fun o => possB L o = false) rfl _
      rcases List.mem_cons.mp hv with rfl | hv
      · exact odd11_bl (R := fun o => possB L o = false) rfl _
      rcases List.mem_cons.mp hv with rfl | hv
      · exact odd11_non (R := fun o => possB L o = false) rfl
      rcases List.mem_cons.mp hv with rfl | hv
      · exact odd11_str (R := fun o => possB L o = false) rfl ⟨by decide +kernel, by decide +kernel, by decide +kernel, by decide +kernel, by decide +kernel⟩
      rcases List.mem_cons.mp hv with rfl | hv
      · exact odd11_str (R := fun o => possB L o = false) rfl (Lsh.mono (by decide) (by decide))
      rcases List.mem_cons.mp hv with rfl | hv
      · exact odd11_tup1 (R := fun o => possB L o = false) rfl (by rw [p2]; omega) ht
      rcases List.mem_cons.mp hv with rfl | hv
      · exact odd11_lst (R := fun o => possB L o = false) rfl he
      rcases List.mem_cons.mp hv with rfl | hv
      · exact odd11_dic (R := fun o => possB L o = false) rfl hd
      rcases List.mem_cons.mp hv with rfl | hv
      · exact odd11_int (by decide +kernel) (poss_not (m := 1) n1)
      cases hv
    clear S11 s2 s3 s4 s6 ht he hd nt ne nd nl1
    rintro Hh ⟨S20, xs, hx3, xl, ox⟩
    refine ⟨.ref l1, rfl, l1, rfl, ⟨_, SqL.of hx3⟩, fun D nD => ?_⟩
    have fD : ∀ b o, Hh b = some o → (∀ ps, o ≠ .tbl ps) → b ≠ D := fun b o h _ => ne_of_none h nD
    refine lc_list (K := K) (a := l1) (xs := xs) (fun z H' => LamX.ExtN Hh H' ∧ LamX.Tabs (tabsOf T) H' ∧ H' D = some (.lst ((List.replicate z true).map V.bl))) ⟨extN_same (same_new nD), tabs_same S20.tab (same_new nD), upd_same⟩ (fun _ H' _ h => SqL.of (extN_lst h.1 hx3)) ?_ ?_
    · rintro z v H7 hz ⟨e7, T7, hD⟩
      obtain ⟨dv, o, it, ct, no⟩ := Odd11.ext e7 (ox v (List.mem_of_getElem? hz))
      have hz17 : z < 12 := by
        have := (List.getElem?_eq_some_iff.mp hz).1
        omega
      refine ⟨rfl, _, rfl, _, rfl, _, rfl, v, rfl, n, d, .int c, v, dv, o, rfl, by omega, by omega, by omega, by omega, it, ct, no, T7, fun H8 e8 T8 => ?_⟩
      have hD8 := extN_lst e8 hD
      have bt : But D H8 (upd H8 D (.lst ((List.replicate z true).map V.bl ++ [V.bl true]))) := fun b o n e => by rw [upd_ne n]; exact e
      refine ⟨_, hD8, ?_, extN_put (LamX.ExtN.trans e7 e8) fD bt, tabs_but T8 hD8 bt, ?_⟩
      · rw [List.length_map, List.length_replicate]
        exact small1000 (by omega)
      · rw [upd_same, List.replicate_succ', List.map_append]
        rfl
    rintro H7 ⟨e7, T7, hD⟩
    rw [xl] at hD
    refine ⟨D, _, rfl, SqL.of hD, _, rfl, ite2 (fun z => absurd z (by decide)) (fun _ => ?_)⟩
    have S21 := S20.ext e7 T7
    -- numbers
    clear S20 ox hx3 xl nD fD e7 T7 hD xs
    refine ⟨_, rfl, _, rfl, _, _, rfl, rfl, _, rfl, (by show 1 ≤ sizeLine; decide), fun t nt => ⟨Nat.zero_le _, fun e ne => fun dd nd => ⟨_, _, rfl, rfl, ⟨by decide, by decide, by decide⟩, (by show 11 ≤ sizeLine; decide), fun l1 nl1 => ?_⟩⟩⟩
    have s2 := same_new (o := .tup [V.int 0]) nt
    have s3 := same_new (o := .lst []) ne
    have s4 := same_new (o := .dK []) nd
    have s6 := same_new (o := .lst [V.int (c : Int), V.int ((c : Int) + 1), V.int (-1), V.bl true, V.bl false, V.non, V.str "0", V.ref t, V.ref e, V.ref dd, V.int ((10 : Int) ^ (40 : Int).toNat)]) nl1
    have ht := s6 _ _ (s4 _ _ (s3 _ _ (upd_same (H := H7) (a := t) (o := .tup [V.int 0]))))
    have he := s6 _ _ (s4 _ _ (upd_same (a := e) (o := .lst [])))
    have hd := s6 _ _ (upd_same (a := dd) (o := .dK []))
    refine with_heap28 (fun H' => P28 (tabsOf T) H2 H' p pr rs (100 * j + 1 + 1 + 1 + 1 + 1) ∧ ∃ xs, H' l1 = some (.lst xs) ∧ xs.length = 11 ∧ ∀ v ∈ xs, Odd11 K (fun o => numB c o = false) H' v) ⟨S21.same (((s2.trans s3).trans s4).trans s6), _, upd_same, rfl, ?_⟩ ?_
    · intro v hv
      have e40 : (10 : Int) ^ (40 : Int).toNat = ((10 ^ 40 : Nat) : Int) := by decide +kernel
      have p6 : (10 : Nat) ^ 40 < 2 ^ 499 := by decide +kernel
      generalize (10 : Nat) ^ 40 = q40 at p5 e40 p6
      generalize (2 : Nat) ^ 100 = q100 at Lb cb p1 p3 p5
      generalize (2 : Nat) ^ 499 = q499 at p1 p2 p3 p4 p6
      rcases List.mem_cons.mp hv with rfl | hv
      · exact odd11_int (by rw [p2]; omega) (num_big (by omega))
      rcases List.mem_cons.mp hv with rfl | hv
      · exact odd11_int (by rw [p2]; omega) (num_big (by omega))
      rcases List.mem_cons.mp hv with rfl | hv
      · exact odd11_int (by decide +kernel) (by rw [numB_some]; rfl)
      rcases List.mem_cons.mp hv with rfl | hv
      · exact odd11_bl (R := fun o => numB c o = false) rfl _
      rcases List.mem_cons.mp hv with rfl | hv
      · exact odd11_bl (R := fun o => numB c o = false) rfl _
      rcases List.mem_cons.mp hv with rfl | hv
      · exact odd11_non (R := fun o => numB c o = false) rfl
      rcases List.mem_cons.mp hv with rfl | hv
      · exact odd11_str (R := fun o => numB c o = false) rfl ⟨by decide +kernel, by decide +kernel, by decide +kernel, by decide +kernel, by decide +kernel⟩
      rcases List.mem_cons.mp hv with rfl | hv
      · exact odd11_tup1 (R := fun o => numB c o = false) rfl (by decide +kernel) ht
      rcases List.mem_cons.mp hv with rfl | hv
      · exact odd11_lst (R := fun o => numB c o = false) rfl he
      rcases List.mem_cons.mp hv with rfl | hv
      · exact odd11_dic (R := fun o => numB c o = false) rfl hd
      rcases List.mem_cons.mp hv with rfl | hv
      · refine odd11_int ?_ ?_
        · show ((10 : Int) ^ (40 : Int).toNat).natAbs < _
          rw [e40, p2]
          omega
        · refine num_big (i := (10 : Int) ^ (40 : Int).toNat) ?_
          rw [e40]
          omega
      cases hv
    clear S21 s2 s3 s4 s6 ht he hd nt ne nd nl1
    rintro Hh ⟨S20, xs, hx3, xl, ox⟩
    refine ⟨.ref l1, rfl, l1, rfl, ⟨_, SqL.of hx3⟩, fun D nD => ?_⟩
    have fD : ∀ b o, Hh b = some o → (∀ ps, o ≠ .tbl ps) → b ≠ D := fun b o h _ => ne_of_none h nD
    refine lc_list (K := K) (a := l1) (xs := xs) (fun z H' => LamX.ExtN Hh H' ∧ LamX.Tabs (tabsOf T) H' ∧ H' D = some (.lst ((List.replicate z true).map V.bl))) ⟨extN_same (same_new nD), tabs_same S20.tab (same_new nD), upd_same⟩ (fun _ H' _ h => SqL.of (extN_lst h.1 hx3)) ?_ ?_
    · rintro z v H7 hz ⟨e7, T7, hD⟩
      obtain ⟨dv, o, it, ct, no⟩ := Odd11.ext e7 (ox v (List.mem_of_getElem? hz))
      have hz17 : z < 11 := by
        have := (List.getElem?_eq_some_iff.mp hz).1
        omega
      refine ⟨rfl, _, rfl, _, rfl, _, rfl, v, rfl, n, d, c, v, dv, o, rfl, stC, (by rw [p2]; generalize (2 : Nat) ^ 100 = q100 at cb p3; omega), it, ct, no, T7, fun H8 e8 T8 => ?_⟩
      have hD8 := extN_lst e8 hD
      have bt : But D H8 (upd H8 D (.lst ((List.replicate z true).map V.bl ++ [V.bl true]))) := fun b o n e => by rw [upd_ne n]; exact e
      refine ⟨_, hD8, ?_, extN_put (LamX.ExtN.trans e7 e8) fD bt, tabs_but T8 hD8 bt, ?_⟩
      · rw [List.length_map, List.length_replicate]
        exact small1000 (by omega)
      · rw [upd_same, List.replicate_succ', List.map_append]
        rfl
    rintro H7 ⟨e7, T7, hD⟩
    rw [xl] at hD
    refine ⟨D, _, rfl, SqL.of hD, _, rfl, ite2 (fun z => absurd z (by decide)) (fun _ => ?_)⟩
    have S22 := S20.ext e7 T7
    -- numbers below no number, one at a time
    clear S20 ox hx3 xl nD fD e7 T7 hD xs
    refine ⟨_, rfl, _, rfl, (Nat.zero_le _), fun t0 nt0 => ⟨_, _, rfl, rfl, ⟨by decide, by decide, by decide⟩, (by show 7 ≤ sizeLine; decide), fun tt ntt => ?_⟩⟩
    have s2 := same_new (o := .tup []) nt0
    have s3 := same_new (o := .tup [V.int (few : Int), V.int (-1), V.bl true, V.non, V.str "0", V.ref t0, V.int ((10 : Int) ^ (40 : Int).toNat)]) ntt
    have ht0 := s3 _ _ (upd_same (H := H7) (a := t0) (o := .tup []))
    refine with_heap28 (fun H' => P28 (tabsOf T) H2 H' p pr rs (100 * j + 1 + 1 + 1 + 1 + 1) ∧ ∃ xs, H' tt = some (.tup xs) ∧ ∀ v ∈ xs, ∃ dv o, Dp K H' v dv ∧ Sh 40 10000 dv ∧ CountV K H' v o ∧ numB few o = false) ⟨S22.same (s2.trans s3), _, upd_same, ?_⟩ ?_
    · have e40 : (10 : Int) ^ (40 : Int).toNat = ((10 ^ 40 : Nat) : Int) := by decide +kernel
      have p6 : (10 : Nat) ^ 40 < 2 ^ 499 := by decide +kernel
      intro v hv
      generalize (10 : Nat) ^ 40 = q40 at p5 e40 p6
      generalize (2 : Nat) ^ 100 = q100 at Lb cb p1 p3 p5
      generalize (2 : Nat) ^ 499 = q499 at p1 p2 p3 p4 p6
      have si : ∀ i : Int, i.natAbs < 2 ^ 500 → Sh 40 10000 (.int i) := fun i h => (Sh.int (b := 500) (by decide) (by decide) h).mono (by decide) (by decide)
      rcases List.mem_cons.mp hv with rfl | hv
      · exact ⟨_, _, .int _, si _ (by rw [p2]; omega), .inl ⟨_, rfl, rfl⟩, num_big (by omega)⟩
      rcases List.mem_cons.mp hv with rfl | hv
      · exact ⟨_, _, .int _, si _ (by decide +kernel), .inl ⟨_, rfl, rfl⟩, by rw [numB_some]; rfl⟩
      rcases List.mem_cons.mp hv with rfl | hv
      · exact ⟨_, none, .bl _, (Sh.bool _).mono (Nat.zero_le _) (Nat.zero_le _), .inr ⟨rfl, "bool", by decide, rfl, .base (.bl _)⟩, rfl⟩
      rcases List.mem_cons.mp hv with rfl | hv
      · exact ⟨_, none, .non, Sh.none.mono (Nat.zero_le _) (Nat.zero_le _), .inr ⟨rfl, "NoneType", by decide, rfl, .base .non⟩, rfl⟩
      rcases List.mem_cons.mp hv with rfl | hv
      · exact ⟨_, none, .str _, ⟨by decide +kernel, by decide +kernel, by decide +kernel, by decide +kernel, by decide +kernel⟩, .inr ⟨rfl, "str", by decide, rfl, .base (.str _)⟩, rfl⟩
      rcases List.mem_cons.mp hv with rfl | hv
      · exact ⟨.tuple [], none, .tup (SqT.of ht0) .nil, (Sh.tup ShAll.nil).mono (by decide) (by decide), .inr ⟨rfl, "tuple", by decide, rfl, .base (.tup ht0)⟩, rfl⟩
      rcases List.mem_cons.mp hv with rfl | hv
      · refine ⟨.int ((10 : Int) ^ (40 : Int).toNat), some ((10 : Int) ^ (40 : Int).toNat), .int _, si _ ?_, .inl ⟨_, rfl, rfl⟩, num_big ?_⟩
        · rw [e40, p2]
          omega
        · rw [e40]
          omega
      cases hv
    clear S22 s2 s3 ht0 nt0 ntt
    rintro Hh ⟨S20, xs, htt, ox⟩
    have pp : possB (leastL n d) (some (L : Int)) = true := std_poss stL
    have c5 : L < 2 ^ 500 := by
      generalize (2 : Nat) ^ 100 = q100 at Lb p1
      rw [p2]
      omega
    refine ⟨tt, rfl, ⟨xs, SqT.of htt⟩, for_tup (K := K) (a := tt) (xs := xs) (fun k σ H => ∃ v11, σ = [some (.ref a), some (.ref pr), some (.int (i : Int)), some (.ref p), _, some (.int (n : Int)), some (.int (d : Int)), some (.int (L : Int)), some (.int (c : Int)), some (.int (few : Int)), some (.ref l1), v11] ∧ LamX.ExtN Hh H ∧ LamX.Tabs (tabsOf T) H) ⟨_, rfl, LamX.ExtN.refl Hh, S20.tab⟩ (fun k σ H _ ⟨_, _, e2, _⟩ => SqT_extN (SqT.of htt) e2) ?_ ?_⟩
    · rintro k x σ H5 hx ⟨v11, rfl, e5, T5⟩
      obtain ⟨dv, o, hdv, sdv, ct, no⟩ := ox x (List.mem_of_getElem? hx)
      refine ⟨T5, fun HD eD TD HE Q' sE hq => ?_⟩
      have eE : LamX.ExtN Hh HE := LamX.ExtN.trans e5 (LamX.ExtN.trans eD (extN_same sE))
      refine ⟨_, rfl, _, rfl, _, rfl, _, rfl, .of_le (by omega) (by omega) (by omega) (by omega), fun ti nti => ?_⟩
      rw [setV_range]
      have sT := same_new (o := .tup (setV (List.range' 0 d))) nti
      have hti : SqT K (upd HE ti (.tup (setV (List.range' 0 d)))) ti (setV (List.range' 0 d)) := SqT.of upd_same
      have ld : (List.range' 0 d).length = d := List.length_range'
      refine ⟨x, rfl, n, .int L, some (L : Int), ti, List.range' 0 d, x, o, rfl, n6, by omega, hti, asc_range' d 0, fun y hy => Nat.lt_of_lt_of_le (mem_range0.mp hy) dn, by omega, .inl ⟨_, rfl, rfl⟩, CountV.ext (LamX.ExtN.trans eE (extN_same sT)) ct, fun hN => absurd hN (by rw [ld, pp]; decide), fun c' e st' => ?_⟩
      obtain rfl : L = c' := by
        have := Option.some.inj e
        omega
      refine ⟨c5, fun _ H' d' sH hd' nd' => ⟨d', "number", x, rfl, .inr ⟨rfl, rfl, hd'⟩, fun H3 y s3 ny hy => ?_⟩, fun k e2 hk => ?_⟩
      · refine ⟨x, rfl, (by show 2 ≤ sizeLine; decide), fun y2 ny2 => ?_⟩
        have s4 := same_new (o := .tup [V.str "number", x]) ny2
        have e9 := LamX.ExtN.trans eE (extN_same (((sT.trans sH).trans s3).trans s4))
        have hdx := Dp.ext e9 hdv
        refine neD_same (d := .tuple [.str "number", dv]) (.tup (SqT.of (s4 _ _ hy)) (.cons (.str _) (.cons hdx .nil))) (.tup (SqT.of upd_same) (.cons (.str _) (.cons hdx .nil))) ?_ ⟨_, rfl, iteF ?_⟩
        · exact (Sh.tup (ShAll.cons (nm_number.mono (Nat.zero_le 40) (Nat.le_refl _)) (ShAll.cons sdv (ShAll.nil.mono (Nat.zero_le 40) (Nat.le_refl 0))))).mono (by decide) (by decide)
        · exact ⟨_, rfl, e9, tabs_same TD (sE.trans (((sT.trans sH).trans s3).trans s4))⟩
      · rw [ld, hfew] at hk
        rw [e2, numB_some, decide_eq_true (Int.natCast_nonneg k), decide_eq_true (Int.ofNat_lt.mpr hk)] at no
        cases no
    rintro σ H5 ⟨v11, rfl, e5, T5⟩
    have S25 := S20.ext e5 T5
    -- a count that is right for no depth above one
    refine ⟨T5, fun HD eD TD HE Q' sE hq => ?_⟩
    have n2 : ¬ leastL n 2 ∣ n := fun z => by
      have h1 := Nat.dvd_trans (leastL_dvd (n := n) (d := 2) (by omega) 1 (by decide)) z
      rw [C_n1] at h1
      have h2 := Nat.le_of_dvd (by omega) h1
      have h3 : n * 2 ≤ n * (n - 1) := Nat.mul_le_mul (Nat.le_refl _) (by omega)
      omega
    have np := poss_not n2
    have eE : LamX.ExtN H5 HE := LamX.ExtN.trans eD (extN_same sE)
    refine ⟨_, rfl, _, rfl, n, 2, .int n, some (n : Int), .int 0, some 0, rfl, n6, by omega, by omega, .inl ⟨_, rfl, rfl⟩, .inl ⟨0, rfl, rfl⟩, fun hN H' d' sH hd' nd' => ⟨d', "count", .int n, rfl, .inl ⟨rfl, rfl, hd'⟩, fun H3 y s3 ny hy => ?_⟩, fun c' e st' => ?_⟩
    · refine ⟨_, rfl, (by show 2 ≤ sizeLine; decide), fun y2 ny2 => ?_⟩
      have s4 := same_new (o := .tup [V.str "count", V.int (n : Int)]) ny2
      have e9 := LamX.ExtN.trans eE (extN_same ((sH.trans s3).trans s4))
      have S26 := S25.ext e9 (tabs_same TD (sE.trans ((sH.trans s3).trans s4)))
      refine neD_same (d := .tuple [.str "count", .int (n : Int)]) (.tup (SqT.of (s4 _ _ hy)) (.cons (.str _) (.cons (.int _) .nil))) (.tup (SqT.of upd_same) (.cons (.str _) (.cons (.int _) .nil))) ?_ ⟨_, rfl, iteF ?_⟩
      · exact (Sh.tup (ShAll.cons (nm_count.mono (Nat.zero_le 40) (Nat.le_refl _)) (ShAll.cons ((Sh.int (b := 500) (by decide) (by decide) (i := (n : Int)) (by rw [p2]; omega)).mono (dp' := 40) (wt' := 500) (by decide) (by decide)) (ShAll.nil.mono (Nat.zero_le 40) (Nat.le_refl 0))))).mono (by decide) (by decide)
      · exact ⟨_, _, _, _, _, _, _, _, rfl, ⟨S26.pot.mono (by omega), S26.row, S26.tab, S26.keep, S26.no⟩⟩
    · rw [e, std_poss st'] at np
      cases np
end
theorem all_mk {l : PySem.W.OpenLaw} {w : World} {K : PySem.W.Frag} {h : Heap} {mg : Str → Option Value} {fa f1 f2 f3 f4 f5 f6 f7 f8 f9 f10 f11 f12 f13 f14 f15 f16 f17 f18 f19 f20 f21 f22 f23 : Addr} (X : K.In h) (G : h.Ns mainGlobals mg) (hfa : mg "law" = some (.ref fa))
    {od1 an1 od2 an2 od3 an3 od4 an4 od5 an5 od6 an6 od7 an7 od8 an8 od9 an9 od10 an10 od11 an11 od12 an12 od13 an13 od14 an14 od15 an15 od16 an16 od17 an17 od18 an18 od19 an19 od20 an20 od21 an21 od22 an22 od23 an23 : Option Addr} {sl1 sl2 sl3 sl4 sl5 sl6 sl7 sl8 sl9 sl10 sl11 sl12 sl13 sl14 sl15 sl16 sl17 sl18 sl19 sl20 sl21 sl22 sl23 : Array (Option Value)} {oc1 kV1 dc1 pm1 cd1 ct1 oc2 kV2 dc2 pm2 cd2 ct2 oc3 kV3 dc3 pm3 cd3 ct3 oc4 kV4 dc4 pm4 cd4 ct4 oc5 kV5 dc5 pm5 cd5 ct5 oc6 kV6 dc6 pm6 cd6 ct6 oc7 kV7 dc7 pm7 cd7 ct7 oc8 kV8 dc8 pm8 cd8 ct8 oc9 kV9 dc9 pm9 cd9 ct9 oc10 kV10 dc10 pm10 cd10 ct10 oc11 kV11 dc11 pm11 cd11 ct11 oc12 kV12 dc12 pm12 cd12 ct12 oc13 kV13 dc13 pm13 cd13 ct13 oc14 kV14 dc14 pm14 cd14 ct14 oc15 kV15 dc15 pm15 cd15 ct15 oc16 kV16 dc16 pm16 cd16 ct16 oc17 kV17 dc17 pm17 cd17 ct17 oc18 kV18 dc18 pm18 cd18 ct18 oc19 kV19 dc19 pm19 cd19 ct19 oc20 kV20 dc20 pm20 cd20 ct20 oc21 kV21 dc21 pm21 cd21 ct21 oc22 kV22 dc22 pm22 cd22 ct22 oc23 kV23 dc23 pm23 cd23 ct23 : Value}
    {CBase CNoN CNotP CTooM CTooS fi2 fi3 fi4 fi5 : Addr}
    {nm2 q2 : Str} {N2 : Addr} {bs2 : List Value} {sn2 : List Str} {sub2 : List Value} {ab2 : Bool} {col2 : Option Bool} {dd2 : Option Addr} {m0_2 m1_2 m2_2 m3_2 m5_2 : Option Value} {odi2 ani2 : Option Addr} {sli2 : Array (Option Value)} {oci2 kVi2 dci2 pmi2 cdi2 cti2 : Value}
    {nm3 q3 : Str} {N3 : Addr} {bs3 : List Value} {sn3 : List Str} {sub3 : List Value} {ab3 : Bool} {col3 : Option Bool} {dd3 : Option Addr} {m0_3 m1_3 m2_3 m3_3 m5_3 : Option Value} {odi3 ani3 : Option Addr} {sli3 : Array (Option Value)} {oci3 kVi3 dci3 pmi3 cdi3 cti3 : Value}
    {nm4 q4 : Str} {N4 : Addr} {bs4 : List Value} {sn4 : List Str} {sub4 : List Value} {ab4 : Bool} {col4 : Option Bool} {dd4 : Option Addr} {m0_4 m1_4 m2_4 m3_4 m5_4 : Option Value} {odi4 ani4 : Option Addr} {sli4 : Array (Option Value)} {oci4 kVi4 dci4 pmi4 cdi4 cti4 : Value}
    {nm5 q5 : Str} {N5 : Addr} {bs5 : List Value} {sn5 : List Str} {sub5 : List Value} {ab5 : Bool} {col5 : Option Bool} {dd5 : Option Addr} {m0_5 m1_5 m2_5 m3_5 m5_5 : Option Value} {odi5 ani5 : Option Addr} {sli5 : Array (Option Value)} {oci5 kVi5 dci5 pmi5 cdi5 cti5 : Value}
    {qq : Program} {tcCr11 tpCr11 tcNr11 tpNr11 tcLaw tpLaw : Addr}
    (a1 : PySem.W.nsIn K mainGlobals "is_plain_int" = some (some (.ref f1)))
    (l1 : K.lookup f1 = some ⟨oc1, od1, .func (PySem.W.fnOf "is_plain_int" "is_plain_int" (defArgs sPlain) (defBody sPlain) (defScope sPlain) .none kV1 dc1 pm1 an1 cd1 ct1), sl1⟩)
    (c1 : PySem.W.codeIn K cd1 "is_plain_int" = true)
    (k1 : PySem.W.keepIn K (.ref f1) = true)
    (a2 : PySem.W.nsIn K mainGlobals "binomial" = some (some (.ref f2)))
    (l2 : K.lookup f2 = some ⟨oc2, od2, .func (PySem.W.fnOf "binomial" "binomial" (defArgs sBin) (defBody sBin) (defScope sBin) .none kV2 dc2 pm2 an2 cd2 ct2), sl2⟩)
    (c2 : PySem.W.codeIn K cd2 "binomial" = true)
    (k2 : PySem.W.keepIn K (.ref f2) = true)
    (a3 : PySem.W.nsIn K mainGlobals "level_parts" = some (some (.ref f3)))
    (l3 : K.lookup f3 = some ⟨oc3, od3, .func (PySem.W.fnOf "level_parts" "level_parts" (defArgs sParts) (defBody sParts) (defScope sParts) .none kV3 dc3 pm3 an3 cd3 ct3), sl3⟩)
    (c3 : PySem.W.codeIn K cd3 "level_parts" = true)
    (k3 : PySem.W.keepIn K (.ref f3) = true)
    (a4 : PySem.W.nsIn K mainGlobals "is_possible" = some (some (.ref f4)))
    (l4 : K.lookup f4 = some ⟨oc4, od4, .func (PySem.W.fnOf "is_possible" "is_possible" (defArgs sPoss) (defBody sPoss) (defScope sPoss) .none kV4 dc4 pm4 an4 cd4 ct4), sl4⟩)
    (c4 : PySem.W.codeIn K cd4 "is_possible" = true)
    (k4 : PySem.W.keepIn K (.ref f4) = true)
    (a5 : PySem.W.nsIn K mainGlobals "check_possible" = some (some (.ref f5)))
    (l5 : K.lookup f5 = some ⟨oc5, od5, .func (PySem.W.fnOf "check_possible" "check_possible" (defArgs sChkP) (defBody sChkP) (defScope sChkP) .none kV5 dc5 pm5 an5 cd5 ct5), sl5⟩)
    (c5 : PySem.W.codeIn K cd5 "check_possible" = true)
    (k5 : PySem.W.keepIn K (.ref f5) = true)
    (a6 : PySem.W.nsIn K mainGlobals "check_number" = some (some (.ref f6)))
    (l6 : K.lookup f6 = some ⟨oc6, od6, .func (PySem.W.fnOf "check_number" "check_number" (defArgs sChkN) (defBody sChkN) (defScope sChkN) .none kV6 dc6 pm6 an6 cd6 ct6), sl6⟩)
    (c6 : PySem.W.codeIn K cd6 "check_number" = true)
    (k6 : PySem.W.keepIn K (.ref f6) = true)
    (a7 : PySem.W.nsIn K mainGlobals "level_widths" = some (some (.ref f7)))
    (l7 : K.lookup f7 = some ⟨oc7, od7, .func (PySem.W.fnOf "level_widths" "level_widths" (defArgs sWid) (defBody sWid) (defScope sWid) .none kV7 dc7 pm7 an7 cd7 ct7), sl7⟩)
    (c7 : PySem.W.codeIn K cd7 "level_widths" = true)
    (k7 : PySem.W.keepIn K (.ref f7) = true)
    (a8 : PySem.W.nsIn K mainGlobals "follow" = some (some (.ref f8)))
    (l8 : K.lookup f8 = some ⟨oc8, od8, .func (PySem.W.fnOf "follow" "follow" (defArgs sFollow) (defBody sFollow) (defScope sFollow) .none kV8 dc8 pm8 an8 cd8 ct8), sl8⟩)
    (c8 : PySem.W.codeIn K cd8 "follow" = true)
    (k8 : PySem.W.keepIn K (.ref f8) = true)
    (a9 : PySem.W.nsIn K mainGlobals "path" = some (some (.ref f9)))
    (l9 : K.lookup f9 = some ⟨oc9, od9, .func (PySem.W.fnOf "path" "path" (defArgs sPath) (defBody sPath) (defScope sPath) .none kV9 dc9 pm9 an9 cd9 ct9), sl9⟩)
    (c9 : PySem.W.codeIn K cd9 "path" = true)
    (k9 : PySem.W.keepIn K (.ref f9) = true)
    (a10 : PySem.W.nsIn K mainGlobals "list_at" = some (some (.ref f10)))
    (l10 : K.lookup f10 = some ⟨oc10, od10, .func (PySem.W.fnOf "list_at" "list_at" (defArgs sListAt) (defBody sListAt) (defScope sListAt) .none kV10 dc10 pm10 an10 cd10 ct10), sl10⟩)
    (c10 : PySem.W.codeIn K cd10 "list_at" = true)
    (k10 : PySem.W.keepIn K (.ref f10) = true)
    (a11 : PySem.W.nsIn K mainGlobals "place_at" = some (some (.ref f11)))
    (l11 : K.lookup f11 = some ⟨oc11, od11, .func (PySem.W.fnOf "place_at" "place_at" (defArgs sPlaceAt) (defBody sPlaceAt) (defScope sPlaceAt) .none kV11 dc11 pm11 an11 cd11 ct11), sl11⟩)
    (c11 : PySem.W.codeIn K cd11 "place_at" = true)
    (k11 : PySem.W.keepIn K (.ref f11) = true)
    (a12 : PySem.W.nsIn K mainGlobals "number_at" = some (some (.ref f12)))
    (l12 : K.lookup f12 = some ⟨oc12, od12, .func (PySem.W.fnOf "number_at" "number_at" (defArgs sNumAt) (defBody sNumAt) (defScope sNumAt) .none kV12 dc12 pm12 an12 cd12 ct12), sl12⟩)
    (c12 : PySem.W.codeIn K cd12 "number_at" = true)
    (k12 : PySem.W.keepIn K (.ref f12) = true)
    (a13 : PySem.W.nsIn K mainGlobals "numbers_with" = some (some (.ref f13)))
    (l13 : K.lookup f13 = some ⟨oc13, od13, .func (PySem.W.fnOf "numbers_with" "numbers_with" (defArgs sNumW) (defBody sNumW) (defScope sNumW) .none kV13 dc13 pm13 an13 cd13 ct13), sl13⟩)
    (c13 : PySem.W.codeIn K cd13 "numbers_with" = true)
    (k13 : PySem.W.keepIn K (.ref f13) = true)
    (a14 : PySem.W.nsIn K mainGlobals "_law_pot" = some (some (.ref f14)))
    (l14 : K.lookup f14 = some ⟨oc14, od14, .func (PySem.W.fnOf "_law_pot" "_law_pot" (defArgs sPot) (defBody sPot) (defScope sPot) .none kV14 dc14 pm14 an14 cd14 ct14), sl14⟩)
    (c14 : PySem.W.codeIn K cd14 "_law_pot" = true)
    (k14 : PySem.W.keepIn K (.ref f14) = true)
    (a15 : PySem.W.nsIn K mainGlobals "_law_take" = some (some (.ref f15)))
    (l15 : K.lookup f15 = some ⟨oc15, od15, .func (PySem.W.fnOf "_law_take" "_law_take" (defArgs sTake) (defBody sTake) (defScope sTake) .none kV15 dc15 pm15 an15 cd15 ct15), sl15⟩)
    (c15 : PySem.W.codeIn K cd15 "_law_take" = true)
    (k15 : PySem.W.keepIn K (.ref f15) = true)
    (a16 : PySem.W.nsIn K mainGlobals "_law_of" = some (some (.ref f16)))
    (l16 : K.lookup f16 = some ⟨oc16, od16, .func (PySem.W.fnOf "_law_of" "_law_of" (defArgs sOf) (defBody sOf) (defScope sOf) .none kV16 dc16 pm16 an16 cd16 ct16), sl16⟩)
    (c16 : PySem.W.codeIn K cd16 "_law_of" = true)
    (k16 : PySem.W.keepIn K (.ref f16) = true)
    (a17 : PySem.W.nsIn K mainGlobals "_law_rows" = some (some (.ref f17)))
    (l17 : K.lookup f17 = some ⟨oc17, od17, .func (PySem.W.fnOf "_law_rows" "_law_rows" (defArgs sRows) (defBody sRows) (defScope sRows) .none kV17 dc17 pm17 an17 cd17 ct17), sl17⟩)
    (c17 : PySem.W.codeIn K cd17 "_law_rows" = true)
    (k17 : PySem.W.keepIn K (.ref f17) = true)
    (a18 : PySem.W.nsIn K mainGlobals "_law_common" = some (some (.ref f18)))
    (l18 : K.lookup f18 = some ⟨oc18, od18, .func (PySem.W.fnOf "_law_common" "_law_common" (defArgs sCommon) (defBody sCommon) (defScope sCommon) .none kV18 dc18 pm18 an18 cd18 ct18), sl18⟩)
    (c18 : PySem.W.codeIn K cd18 "_law_common" = true)
    (k18 : PySem.W.keepIn K (.ref f18) = true)
    (a19 : PySem.W.nsIn K mainGlobals "_law_least" = some (some (.ref f19)))
    (l19 : K.lookup f19 = some ⟨oc19, od19, .func (PySem.W.fnOf "_law_least" "_law_least" (defArgs sLeast) (defBody sLeast) (defScope sLeast) .none kV19 dc19 pm19 an19 cd19 ct19), sl19⟩)
    (c19 : PySem.W.codeIn K cd19 "_law_least" = true)
    (k19 : PySem.W.keepIn K (.ref f19) = true)
    (a20 : PySem.W.nsIn K mainGlobals "_law_caught" = some (some (.ref f20)))
    (l20 : K.lookup f20 = some ⟨oc20, od20, .func (PySem.W.fnOf "_law_caught" "_law_caught" (defArgs sCaught11) (defBody sCaught11) (defScope sCaught11) .none kV20 dc20 pm20 an20 cd20 ct20), sl20⟩)
    (c20 : PySem.W.codeIn K cd20 "_law_caught" = true)
    (k20 : PySem.W.keepIn K (.ref f20) = true)
    (a21 : PySem.W.nsIn K mainGlobals "_law_count_right" = some (some (.ref f21)))
    (l21 : K.lookup f21 = some ⟨oc21, od21, .func (PySem.W.fnOf "_law_count_right" "_law_count_right" (defArgs sCr11) (defBody sCr11) (defScope sCr11) .none kV21 dc21 pm21 an21 cd21 ct21), sl21⟩)
    (c21 : PySem.W.codeIn K cd21 "_law_count_right" = true)
    (k21 : PySem.W.keepIn K (.ref f21) = true)
    (a22 : PySem.W.nsIn K mainGlobals "_law_number_right" = some (some (.ref f22)))
    (l22 : K.lookup f22 = some ⟨oc22, od22, .func (PySem.W.fnOf "_law_number_right" "_law_number_right" (defArgs sNr11) (defBody sNr11) (defScope sNr11) .none kV22 dc22 pm22 an22 cd22 ct22), sl22⟩)
    (c22 : PySem.W.codeIn K cd22 "_law_number_right" = true)
    (k22 : PySem.W.keepIn K (.ref f22) = true)
    (a23 : PySem.W.nsIn K mainGlobals "law" = some (some (.ref f23)))
    (l23 : K.lookup f23 = some ⟨oc23, od23, .func (PySem.W.fnOf "law" "law" (defArgs sLaw) (defBody sLaw) (defScope sLaw) .none kV23 dc23 pm23 an23 cd23 ct23), sl23⟩)
    (c23 : PySem.W.codeIn K cd23 "law" = true)
    (k23 : PySem.W.keepIn K (.ref f23) = true)
    (ac1 : PySem.W.nsIn K mainGlobals "FailoverError" = some (some (.ref CBase)))
    (bsp : PySem.W.specialIn K (.ref CBase) "__getattribute__" = some (some (.builtin "type.__getattribute__")))
    (bty : PySem.W.typeIn K (.ref CBase) = some (.type "type"))
    (brd : PySem.W.readsIn K CBase (.type "type") = true)
    (bfc : PySem.W.findCls K (.ref CBase) (.type "type") "__init__" = some (.val (.builtin "ValueError.__init__")))
    (bex : PySem.W.subIn K (.ref CBase) (.type "BaseException") = some true)
    (bhd : PySem.W.hasDictIn K CBase = true)
    (ac2 : PySem.W.nsIn K mainGlobals "NoNumber" = some (some (.ref CNoN)))
    (e2_xL : K.lookup CNoN = some (excClassObj nm2 q2 CNoN N2 bs2 [.ref CBase, .type "ValueError", .type "Exception", .type "BaseException", .type "object"] true sn2 sub2 ab2 col2 dd2 m0_2 m1_2 m2_2 m3_2 m5_2 "ValueError.__new__"))
    (e2_sa : PySem.W.findIn K (.ref CNoN) "__setattr__" = some (some (.builtin "object.__setattr__")))
    (e2_ga : PySem.W.findIn K (.ref CNoN) "__getattribute__" = some (some (.builtin "BaseException.__getattribute__")))
    (e2_gg : PySem.W.findIn K (.ref CNoN) "__getattr__" = some none)
    (e2_nb : PySem.W.findIn K (.ref CNoN) "value" = some none)
    (e2_ai : PySem.W.findIn K (.ref CNoN) "__init__" = some (some (.ref fi2)))
    (e2_ti : PySem.W.typeIn K (.ref fi2) = some (.type "function"))
    (e2_li : K.lookup fi2 = some ⟨oci2, odi2, .func (PySem.W.fnOf "__init__" "NoNumber.__init__" (defArgs sNoN) (defBody sNoN) (defScope sNoN) .none kVi2 dci2 pmi2 ani2 cdi2 cti2), sli2⟩)
    (e2_ci : PySem.W.codeIn K cdi2 "NoNumber.__init__" = true)
    (e2_ki : PySem.W.keepIn K (.ref fi2) = true)
    (e2_kC : PySem.W.keepIn K (.ref CNoN) = true)
    (e2_eC : PySem.W.subIn K (.ref CNoN) (.type "BaseException") = some true)
    (e2_tC : PySem.W.typeIn K (.ref CNoN) = some (.type "type"))
    (e2_hC : PySem.W.hasDictIn K CNoN = true)
    (e2_cC : PySem.W.findIn K (.ref CNoN) "__class__" = some (some (.builtin "object.__class__")))
    (e2_gC : PySem.W.specialIn K (.builtin "object.__class__") "__get__" = some (some (.builtin "getset_descriptor.__get__")))
    (e2_kk : PySem.W.takesIn K (.builtin "object.__class__") = some true)
    (e2_mC : PySem.W.mroIn K CNoN (.type "object") = some true)
    (e2_sB : PySem.W.subIn K (.ref CNoN) (.ref CBase) = some true)
    (ac3 : PySem.W.nsIn K mainGlobals "NotPossible" = some (some (.ref CNotP)))
    (e3_xL : K.lookup CNotP = some (excClassObj nm3 q3 CNotP N3 bs3 [.ref CBase, .type "ValueError", .type "Exception", .type "BaseException", .type "object"] true sn3 sub3 ab3 col3 dd3 m0_3 m1_3 m2_3 m3_3 m5_3 "ValueError.__new__"))
    (e3_sa : PySem.W.findIn K (.ref CNotP) "__setattr__" = some (some (.builtin "object.__setattr__")))
    (e3_ga : PySem.W.findIn K (.ref CNotP) "__getattribute__" = some (some (.builtin "BaseException.__getattribute__")))
    (e3_gg : PySem.W.findIn K (.ref CNotP) "__getattr__" = some none)
    (e3_nb : PySem.W.findIn K (.ref CNotP) "count" = some none)
    (e3_ai : PySem.W.findIn K (.ref CNotP) "__init__" = some (some (.ref fi3)))
    (e3_ti : PySem.W.typeIn K (.ref fi3) = some (.type "function"))
    (e3_li : K.lookup fi3 = some ⟨oci3, odi3, .func (PySem.W.fnOf "__init__" "NotPossible.__init__" (defArgs sNotP) (defBody sNotP) (defScope sNotP) .none kVi3 dci3 pmi3 ani3 cdi3 cti3), sli3⟩)
    (e3_ci : PySem.W.codeIn K cdi3 "NotPossible.__init__" = true)
    (e3_ki : PySem.W.keepIn K (.ref fi3) = true)
    (e3_kC : PySem.W.keepIn K (.ref CNotP) = true)
    (e3_eC : PySem.W.subIn K (.ref CNotP) (.type "BaseException") = some true)
    (e3_tC : PySem.W.typeIn K (.ref CNotP) = some (.type "type"))
    (e3_hC : PySem.W.hasDictIn K CNotP = true)
    (e3_cC : PySem.W.findIn K (.ref CNotP) "__class__" = some (some (.builtin "object.__class__")))
    (e3_gC : PySem.W.specialIn K (.builtin "object.__class__") "__get__" = some (some (.builtin "getset_descriptor.__get__")))
    (e3_kk : PySem.W.takesIn K (.builtin "object.__class__") = some true)
    (e3_mC : PySem.W.mroIn K CNotP (.type "object") = some true)
    (e3_sB : PySem.W.subIn K (.ref CNotP) (.ref CBase) = some true)
    (ac4 : PySem.W.nsIn K mainGlobals "TooMany" = some (some (.ref CTooM)))
    (e4_xL : K.lookup CTooM = some (excClassObj nm4 q4 CTooM N4 bs4 [.ref CBase, .type "ValueError", .type "Exception", .type "BaseException", .type "object"] true sn4 sub4 ab4 col4 dd4 m0_4 m1_4 m2_4 m3_4 m5_4 "ValueError.__new__"))
    (e4_sa : PySem.W.findIn K (.ref CTooM) "__setattr__" = some (some (.builtin "object.__setattr__")))
    (e4_ga : PySem.W.findIn K (.ref CTooM) "__getattribute__" = some (some (.builtin "BaseException.__getattribute__")))
    (e4_gg : PySem.W.findIn K (.ref CTooM) "__getattr__" = some none)
    (e4_nb : PySem.W.findIn K (.ref CTooM) "count" = some none)
    (e4_ai : PySem.W.findIn K (.ref CTooM) "__init__" = some (some (.ref fi4)))
    (e4_ti : PySem.W.typeIn K (.ref fi4) = some (.type "function"))
    (e4_li : K.lookup fi4 = some ⟨oci4, odi4, .func (PySem.W.fnOf "__init__" "TooMany.__init__" (defArgs sTooM) (defBody sTooM) (defScope sTooM) .none kVi4 dci4 pmi4 ani4 cdi4 cti4), sli4⟩)
    (e4_ci : PySem.W.codeIn K cdi4 "TooMany.__init__" = true)
    (e4_ki : PySem.W.keepIn K (.ref fi4) = true)
    (e4_kC : PySem.W.keepIn K (.ref CTooM) = true)
    (e4_eC : PySem.W.subIn K (.ref CTooM) (.type "BaseException") = some true)
    (e4_tC : PySem.W.typeIn K (.ref CTooM) = some (.type "type"))
    (e4_hC : PySem.W.hasDictIn K CTooM = true)
    (e4_cC : PySem.W.findIn K (.ref CTooM) "__class__" = some (some (.builtin "object.__class__")))
    (e4_gC : PySem.W.specialIn K (.builtin "object.__class__") "__get__" = some (some (.builtin "getset_descriptor.__get__")))
    (e4_kk : PySem.W.takesIn K (.builtin "object.__class__") = some true)
    (e4_mC : PySem.W.mroIn K CTooM (.type "object") = some true)
    (e4_sB : PySem.W.subIn K (.ref CTooM) (.ref CBase) = some true)
    (ac5 : PySem.W.nsIn K mainGlobals "TooShort" = some (some (.ref CTooS)))
    (e5_xL : K.lookup CTooS = some (excClassObj nm5 q5 CTooS N5 bs5 [.ref CBase, .type "ValueError", .type "Exception", .type "BaseException", .type "object"] true sn5 sub5 ab5 col5 dd5 m0_5 m1_5 m2_5 m3_5 m5_5 "ValueError.__new__"))
    (e5_sa : PySem.W.findIn K (.ref CTooS) "__setattr__" = some (some (.builtin "object.__setattr__")))
    (e5_ga : PySem.W.findIn K (.ref CTooS) "__getattribute__" = some (some (.builtin "BaseException.__getattribute__")))
    (e5_gg : PySem.W.findIn K (.ref CTooS) "__getattr__" = some none)
    (e5_nb : PySem.W.findIn K (.ref CTooS) "order" = some none)
    (e5_ai : PySem.W.findIn K (.ref CTooS) "__init__" = some (some (.ref fi5)))
    (e5_ti : PySem.W.typeIn K (.ref fi5) = some (.type "function"))
    (e5_li : K.lookup fi5 = some ⟨oci5, odi5, .func (PySem.W.fnOf "__init__" "TooShort.__init__" (defArgs sTooS) (defBody sTooS) (defScope sTooS) .none kVi5 dci5 pmi5 ani5 cdi5 cti5), sli5⟩)
    (e5_ci : PySem.W.codeIn K cdi5 "TooShort.__init__" = true)
    (e5_ki : PySem.W.keepIn K (.ref fi5) = true)
    (e5_kC : PySem.W.keepIn K (.ref CTooS) = true)
    (e5_eC : PySem.W.subIn K (.ref CTooS) (.type "BaseException") = some true)
    (e5_tC : PySem.W.typeIn K (.ref CTooS) = some (.type "type"))
    (e5_hC : PySem.W.hasDictIn K CTooS = true)
    (e5_cC : PySem.W.findIn K (.ref CTooS) "__class__" = some (some (.builtin "object.__class__")))
    (e5_gC : PySem.W.specialIn K (.builtin "object.__class__") "__get__" = some (some (.builtin "getset_descriptor.__get__")))
    (e5_kk : PySem.W.takesIn K (.builtin "object.__class__") = some true)
    (e5_mC : PySem.W.mroIn K CTooS (.type "object") = some true)
    (e5_sB : PySem.W.subIn K (.ref CTooS) (.ref CBase) = some true)
    (kt_kA_NotP : PySem.W.kitAny K (.ref CNotP) [.ref CTooM, .ref CTooS] = some false)
    (kt_kV_NotP : PySem.W.kitOne K (.ref CNotP) (.type "ValueError") = some true)
    (kt_kP_NotP : PySem.W.kitOne K (.ref CNotP) (.ref CNotP) = some true)
    (kt_kN_NotP : PySem.W.kitOne K (.ref CNotP) (.ref CNoN) = some false)
    (kt_kA_NoN : PySem.W.kitAny K (.ref CNoN) [.ref CTooM, .ref CTooS] = some false)
    (kt_kV_NoN : PySem.W.kitOne K (.ref CNoN) (.type "ValueError") = some true)
    (kt_kP_NoN : PySem.W.kitOne K (.ref CNoN) (.ref CNotP) = some false)
    (kt_kN_NoN : PySem.W.kitOne K (.ref CNoN) (.ref CNoN) = some true)
    (z1 : PySem.W.nsIn K mainGlobals "ValueError" = some none)
    (z2 : PySem.W.nsIn K mainGlobals "abs" = some none)
    (z3 : PySem.W.nsIn K mainGlobals "all" = some none)
    (z4 : PySem.W.nsIn K mainGlobals "bool" = some none)
    (z5 : PySem.W.nsIn K mainGlobals "int" = some none)
    (z6 : PySem.W.nsIn K mainGlobals "isinstance" = some none)
    (z7 : PySem.W.nsIn K mainGlobals "len" = some none)
    (z8 : PySem.W.nsIn K mainGlobals "list" = some none)
    (z9 : PySem.W.nsIn K mainGlobals "max" = some none)
    (z10 : PySem.W.nsIn K mainGlobals "min" = some none)
    (z11 : PySem.W.nsIn K mainGlobals "range" = some none)
    (z12 : PySem.W.nsIn K mainGlobals "repr" = some none)
    (z13 : PySem.W.nsIn K mainGlobals "reversed" = some none)
    (z14 : PySem.W.nsIn K mainGlobals "set" = some none)
    (z15 : PySem.W.nsIn K mainGlobals "sorted" = some none)
    (z16 : PySem.W.nsIn K mainGlobals "str" = some none)
    (z17 : PySem.W.nsIn K mainGlobals "tuple" = some none)
    (z18 : PySem.W.nsIn K mainGlobals "zip" = some none)
    (tbCr11 : PySem.W.tabIn K "_law_count_right" = some (tcCr11, tpCr11))
    (tnCr11 : K.lookup tpCr11 = none)
    (trCr11 : ((recsOf qq).find? fun e => e.name == ("_law_count_right" : Str)).isSome = true)
    (tbNr11 : PySem.W.tabIn K "_law_number_right" = some (tcNr11, tpNr11))
    (tnNr11 : K.lookup tpNr11 = none)
    (trNr11 : ((recsOf qq).find? fun e => e.name == ("_law_number_right" : Str)).isSome = true)
    (tbLaw : PySem.W.tabIn K "law" = some (tcLaw, tpLaw))
    (tnLaw : K.lookup tpLaw = none)
    (trLaw : ((recsOf qq).find? fun e => e.name == ("law" : Str)).isSome = true)
    (teCr11_Nr11 : tpCr11 ≠ tpNr11)
    (teCr11_Law : tpCr11 ≠ tpLaw)
    (teNr11_Law : tpNr11 ≠ tpLaw)
    : LawT qq l w K 11 63 "_law_script" mg fa := by
  have e := hfa.symm.trans (PySem.W.mg_of X G a23)
  cases e
  have F1 := fun_mk (st := sPlain) l1 c1 k1
  have b1 := F1.binds (ps := ["thing"]) fun _ _ _ _ _ _ us hl => match us, hl with | [_], _ => rfl
  have F2 := fun_mk (st := sBin) l2 c2 k2
  have b2 := F2.binds (ps := ["n", "k"]) fun _ _ _ _ _ _ us hl => match us, hl with | [_, _], _ => rfl
  have F3 := fun_mk (st := sParts) l3 c3 k3
  have b3 := F3.binds (ps := ["n", "depth"]) fun _ _ _ _ _ _ us hl => match us, hl with | [_, _], _ => rfl
  have F4 := fun_mk (st := sPoss) l4 c4 k4
  have b4 := F4.binds (ps := ["n", "depth", "count"]) fun _ _ _ _ _ _ us hl => match us, hl with | [_, _, _], _ => rfl
  have F5 := fun_mk (st := sChkP) l5 c5 k5
  have b5 := F5.binds (ps := ["n", "depth", "count"]) fun _ _ _ _ _ _ us hl => match us, hl with | [_, _, _], _ => rfl
  have F6 := fun_mk (st := sChkN) l6 c6 k6
  have b6 := F6.binds (ps := ["value", "many"]) fun _ _ _ _ _ _ us hl => match us, hl with | [_, _], _ => rfl
  have F7 := fun_mk (st := sWid) l7 c7 k7
  have b7 := F7.binds (ps := ["n", "depth", "count"]) fun _ _ _ _ _ _ us hl => match us, hl with | [_, _, _], _ => rfl
  have F8 := fun_mk (st := sFollow) l8 c8 k8
  have b8 := F8.binds (ps := ["widths", "servers", "rest"]) fun _ _ _ _ _ _ us hl => match us, hl with | [_, _, _], _ => rfl
  have F9 := fun_mk (st := sPath) l9 c9 k9
  have b9 := F9.binds (ps := ["n", "depth", "count", "number"]) fun _ _ _ _ _ _ us hl => match us, hl with | [_, _, _, _], _ => rfl
  have F10 := fun_mk (st := sListAt) l10 c10 k10
  have b10 := F10.binds (ps := ["n", "depth", "count", "number"]) fun _ _ _ _ _ _ us hl => match us, hl with | [_, _, _, _], _ => rfl
  have F11 := fun_mk (st := sPlaceAt) l11 c11 k11
  have b11 := F11.binds (ps := ["n", "depth", "count", "number"]) fun _ _ _ _ _ _ us hl => match us, hl with | [_, _, _, _], _ => rfl
  have F12 := fun_mk (st := sNumAt) l12 c12 k12
  have b12 := F12.binds (ps := ["n", "count", "members", "rest"]) fun _ _ _ _ _ _ us hl => match us, hl with | [_, _, _, _], _ => rfl
  have F13 := fun_mk (st := sNumW) l13 c13 k13
  have b13 := F13.binds (ps := ["n", "count", "beginning"]) fun _ _ _ _ _ _ us hl => match us, hl with | [_, _, _], _ => rfl
  have F14 := fun_mk (st := sPot) l14 c14 k14
  have b14 := F14.binds (ps := ["_law_script", "_law_spot"]) fun _ _ _ _ _ _ us hl => match us, hl with | [_, _], _ => rfl
  have F15 := fun_mk (st := sTake) l15 c15 k15
  have b15 := F15.binds (ps := ["_law_pot_here", "_law_upto"]) fun _ _ _ _ _ _ us hl => match us, hl with | [_, _], _ => rfl
  have F16 := fun_mk (st := sOf) l16 c16 k16
  have b16 := F16.binds (ps := ["_law_pot_here", "_law_some"]) fun _ _ _ _ _ _ us hl => match us, hl with | [_, _], _ => rfl
  have F17 := fun_mk (st := sRows) l17 c17 k17
  have b17 := F17.binds (ps := []) fun _ _ _ _ _ _ us hl => match us, hl with | [], _ => rfl
  have F18 := fun_mk (st := sCommon) l18 c18 k18
  have b18 := F18.binds (ps := ["_law_one", "_law_other"]) fun _ _ _ _ _ _ us hl => match us, hl with | [_, _], _ => rfl
  have F19 := fun_mk (st := sLeast) l19 c19 k19
  have b19 := F19.binds (ps := ["_law_rows_here", "_law_wide", "_law_tall"]) fun _ _ _ _ _ _ us hl => match us, hl with | [_, _, _], _ => rfl
  have F20 := fun_mk (st := sCaught11) l20 c20 k20
  have b20 := F20.binds (ps := ["_law_ask"]) fun _ _ _ _ _ _ us hl => match us, hl with | [_], _ => rfl
  have F21 := fun_mk (st := sCr11) l21 c21 k21
  have b21 := F21.binds (ps := ["_law_wide", "_law_tall", "_law_total", "_law_odd"]) fun _ _ _ _ _ _ us hl => match us, hl with | [_, _, _, _], _ => rfl
  have F22 := fun_mk (st := sNr11) l22 c22 k22
  have b22 := F22.binds (ps := ["_law_wide", "_law_tall", "_law_total", "_law_odd"]) fun _ _ _ _ _ _ us hl => match us, hl with | [_, _, _, _], _ => rfl
  have F23 := fun_mk (st := sLaw) l23 c23 k23
  have FI2 := fun_mk (st := sNoN) e2_li e2_ci e2_ki
  have bI2 := FI2.binds (ps := ["self", "value"]) fun _ _ _ _ _ _ us hl => match us, hl with | [_, _], _ => rfl
  have ER2 : ErrT K CNoN fi2 "value" CBase := ⟨⟨⟨nm2, q2, N2, bs2, _, sn2, sub2, ab2, col2, dd2, m0_2, m1_2, m2_2, m3_2, m5_2, e2_xL, by first | rfl | decide +kernel⟩, e2_sa, e2_eC, e2_tC, e2_kC⟩, ⟨e2_ga, e2_gg, e2_eC, e2_hC⟩, ⟨e2_ga, e2_gg, e2_eC, e2_hC, e2_cC, e2_gC, e2_kk, e2_mC⟩, e2_nb, e2_ai, e2_ti, PySem.W.exm_ref bex bhd bty e2_sB⟩
  have FI3 := fun_mk (st := sNotP) e3_li e3_ci e3_ki
  have bI3 := FI3.binds (ps := ["self", "count"]) fun _ _ _ _ _ _ us hl => match us, hl with | [_, _], _ => rfl
  have ER3 : ErrT K CNotP fi3 "count" CBase := ⟨⟨⟨nm3, q3, N3, bs3, _, sn3, sub3, ab3, col3, dd3, m0_3, m1_3, m2_3, m3_3, m5_3, e3_xL, by first | rfl | decide +kernel⟩, e3_sa, e3_eC, e3_tC, e3_kC⟩, ⟨e3_ga, e3_gg, e3_eC, e3_hC⟩, ⟨e3_ga, e3_gg, e3_eC, e3_hC, e3_cC, e3_gC, e3_kk, e3_mC⟩, e3_nb, e3_ai, e3_ti, PySem.W.exm_ref bex bhd bty e3_sB⟩
  have FI4 := fun_mk (st := sTooM) e4_li e4_ci e4_ki
  have bI4 := FI4.binds (ps := ["self", "count"]) fun _ _ _ _ _ _ us hl => match us, hl with | [_, _], _ => rfl
  have ER4 : ErrT K CTooM fi4 "count" CBase := ⟨⟨⟨nm4, q4, N4, bs4, _, sn4, sub4, ab4, col4, dd4, m0_4, m1_4, m2_4, m3_4, m5_4, e4_xL, by first | rfl | decide +kernel⟩, e4_sa, e4_eC, e4_tC, e4_kC⟩, ⟨e4_ga, e4_gg, e4_eC, e4_hC⟩, ⟨e4_ga, e4_gg, e4_eC, e4_hC, e4_cC, e4_gC, e4_kk, e4_mC⟩, e4_nb, e4_ai, e4_ti, PySem.W.exm_ref bex bhd bty e4_sB⟩
  have FI5 := fun_mk (st := sTooS) e5_li e5_ci e5_ki
  have bI5 := FI5.binds (ps := ["self", "order"]) fun _ _ _ _ _ _ us hl => match us, hl with | [_, _], _ => rfl
  have ER5 : ErrT K CTooS fi5 "order" CBase := ⟨⟨⟨nm5, q5, N5, bs5, _, sn5, sub5, ab5, col5, dd5, m0_5, m1_5, m2_5, m3_5, m5_5, e5_xL, by first | rfl | decide +kernel⟩, e5_sa, e5_eC, e5_tC, e5_kC⟩, ⟨e5_ga, e5_gg, e5_eC, e5_hC⟩, ⟨e5_ga, e5_gg, e5_eC, e5_hC, e5_cC, e5_gC, e5_kk, e5_mC⟩, e5_nb, e5_ai, e5_ti, PySem.W.exm_ref bex bhd bty e5_sB⟩
  let T : Txt K mg := ⟨f1, _, F1, b1, PySem.W.mg_of X G a1, f2, _, F2, b2, PySem.W.mg_of X G a2, f3, _, F3, b3, PySem.W.mg_of X G a3, f4, _, F4, b4, PySem.W.mg_of X G a4, f5, _, F5, b5, PySem.W.mg_of X G a5, f6, _, F6, b6, PySem.W.mg_of X G a6, f7, _, F7, b7, PySem.W.mg_of X G a7, f8, _, F8, b8, PySem.W.mg_of X G a8, f9, _, F9, b9, PySem.W.mg_of X G a9, f10, _, F10, b10, PySem.W.mg_of X G a10, f11, _, F11, b11, PySem.W.mg_of X G a11, f12, _, F12, b12, PySem.W.mg_of X G a12, f13, _, F13, b13, PySem.W.mg_of X G a13, f14, _, F14, b14, PySem.W.mg_of X G a14, f15, _, F15, b15, PySem.W.mg_of X G a15, f16, _, F16, b16, PySem.W.mg_of X G a16, f17, _, F17, b17, PySem.W.mg_of X G a17, f18, _, F18, b18, PySem.W.mg_of X G a18, f19, _, F19, b19, PySem.W.mg_of X G a19, f20, _, F20, b20, PySem.W.mg_of X G a20, f21, _, F21, b21, PySem.W.mg_of X G a21, f22, _, F22, b22, PySem.W.mg_of X G a22, CBase, PySem.W.mg_of X G ac1, ⟨bsp, bty, brd, bfc⟩, CNoN, PySem.W.mg_of X G ac2, fi2, _, FI2, bI2, ER2, CNotP, PySem.W.mg_of X G ac3, fi3, _, FI3, bI3, ER3, CTooM, PySem.W.mg_of X G ac4, fi4, _, FI4, bI4, ER4, CTooS, PySem.W.mg_of X G ac5, fi5, _, FI5, bI5, ER5, kt_kA_NotP, kt_kV_NotP, kt_kP_NotP, kt_kN_NotP, kt_kA_NoN, kt_kV_NoN, kt_kP_NoN, kt_kN_NoN, PySem.W.mg_none_of X G z1, PySem.W.mg_none_of X G z2, PySem.W.mg_none_of X G z3, PySem.W.mg_none_of X G z4, PySem.W.mg_none_of X G z5, PySem.W.mg_none_of X G z6, PySem.W.mg_none_of X G z7, PySem.W.mg_none_of X G z8, PySem.W.mg_none_of X G z9, PySem.W.mg_none_of X G z10, PySem.W.mg_none_of X G z11, PySem.W.mg_none_of X G z12, PySem.W.mg_none_of X G z13, PySem.W.mg_none_of X G z14, PySem.W.mg_none_of X G z15, PySem.W.mg_none_of X G z16, PySem.W.mg_none_of X G z17, PySem.W.mg_none_of X G z18, tcCr11, tpCr11, codeOf_tab a21 tbCr11, tcNr11, tpNr11, codeOf_tab a22 tbNr11, tcLaw, tpLaw⟩
  refine ⟨PySem.W.fnOf "law" "law" (defArgs sLaw) (defBody sLaw) (defScope sLaw) .none kV23 dc23 pm23 an23 cd23 ct23, [("_law_count_right", tcCr11, tpCr11), ("_law_number_right", tcNr11, tpNr11), ("law", tcLaw, tpLaw)], spLaw K (tabsOf T), ?_, fun s v => .of_eq rfl, fun H a ns hl hT hS => ⟨a, ns, rfl, hS, hl, ?_, fun _ => rfl⟩, fun base _ _ hB => ok_law F23 T (codeOf_tab a23 tbLaw) ⟨hB ("_law_count_right", tcCr11, tpCr11) (by simp), hB ("_law_number_right", tcNr11, tpNr11) (by simp), hB ("law", tcLaw, tpLaw) (by simp), teCr11_Nr11, teCr11_Law, teNr11_Law⟩⟩
  · intro p hp
    simp only [List.mem_cons, List.not_mem_nil, or_false] at hp
    rcases hp with rfl | rfl | rfl
    · exact ⟨tbCr11, tnCr11, trCr11⟩
    · exact ⟨tbNr11, tnNr11, trNr11⟩
    · exact ⟨tbLaw, tnLaw, trLaw⟩
  · intro p hp
    unfold tabsOf at hp
    simp only [List.mem_cons, List.not_mem_nil, or_false] at hp
    rcases hp with rfl | rfl | rfl
    · exact LamX.TabS.nil (hT ("_law_count_right", tcCr11, tpCr11) (by simp))
    · exact LamX.TabS.nil (hT ("_law_number_right", tcNr11, tpNr11) (by simp))
    · exact LamX.TabS.nil (hT ("law", tcLaw, tpLaw) (by simp))
end Ef
open PySem PySem.W PyProof.Rows
set_option maxRecDepth 100000 in
set_option maxHeartbeats 0 in
theorem PySem.Challenge.cw_evenfailover_k11_lists_that_are_refused_holds : PySem.Challenge.rw_evenfailover_k11_lists_that_are_refused.Holds := by
  w_on; o_law; k_head; (case hw => w_witness2)
  k_fill
  refine Ef.lawGT (l := PySem.Challenge.rw_evenfailover_k11_lists_that_are_refused) (n := 63) (k := 11) (x := "_law_script") rfl (by decide) rfl ⟨rfl, by decide, by decide⟩ (fun w h Y => PySem.W.km_in_of Y) ?F
  case F =>
    intro w mg fa h KX G hmg
    refine' Ef.all_mk KX G hmg ?a1 ?l1 ?c1 ?k1 ?a2 ?l2 ?c2 ?k2 ?a3 ?l3 ?c3 ?k3 ?a4 ?l4 ?c4 ?k4 ?a5 ?l5 ?c5 ?k5 ?a6 ?l6 ?c6 ?k6 ?a7 ?l7 ?c7 ?k7 ?a8 ?l8 ?c8 ?k8 ?a9 ?l9 ?c9 ?k9 ?a10 ?l10 ?c10 ?k10 ?a11 ?l11 ?c11 ?k11 ?a12 ?l12 ?c12 ?k12 ?a13 ?l13 ?c13 ?k13 ?a14 ?l14 ?c14 ?k14 ?a15 ?l15 ?c15 ?k15 ?a16 ?l16 ?c16 ?k16 ?a17 ?l17 ?c17 ?k17 ?a18 ?l18 ?c18 ?k18 ?a19 ?l19 ?c19 ?k19 ?a20 ?l20 ?c20 ?k20 ?a21 ?l21 ?c21 ?k21 ?a22 ?l22 ?c22 ?k22 ?a23 ?l23 ?c23 ?k23 ?ac1 ?bsp ?bty ?brd ?bfc ?bex ?bhd ?ac2 ?e2_xL ?e2_sa ?e2_ga ?e2_gg ?e2_nb ?e2_ai ?e2_ti ?e2_li ?e2_ci ?e2_ki ?e2_kC ?e2_eC ?e2_tC ?e2_hC ?e2_cC ?e2_gC ?e2_kk ?e2_mC ?e2_sB ?ac3 ?e3_xL ?e3_sa ?e3_ga ?e3_gg ?e3_nb ?e3_ai ?e3_ti ?e3_li ?e3_ci ?e3_ki ?e3_kC ?e3_eC ?e3_tC ?e3_hC ?e3_cC ?e3_gC ?e3_kk ?e3_mC ?e3_sB ?ac4 ?e4_xL ?e4_sa ?e4_ga ?e4_gg ?e4_nb ?e4_ai ?e4_ti ?e4_li ?e4_ci ?e4_ki ?e4_kC ?e4_eC ?e4_tC ?e4_hC ?e4_cC ?e4_gC ?e4_kk ?e4_mC ?e4_sB ?ac5 ?e5_xL ?e5_sa ?e5_ga ?e5_gg ?e5_nb ?e5_ai ?e5_ti ?e5_li ?e5_ci ?e5_ki ?e5_kC ?e5_eC ?e5_tC ?e5_hC ?e5_cC ?e5_gC ?e5_kk ?e5_mC ?e5_sB ?kt_kA_NotP ?kt_kV_NotP ?kt_kP_NotP ?kt_kN_NotP ?kt_kA_NoN ?kt_kV_NoN ?kt_kP_NoN ?kt_kN_NoN ?z1 ?z2 ?z3 ?z4 ?z5 ?z6 ?z7 ?z8 ?z9 ?z10 ?z11 ?z12 ?z13 ?z14 ?z15 ?z16 ?z17 ?z18 ?tbCr11 ?tnCr11 ?trCr11 ?tbNr11 ?tnNr11 ?trNr11 ?tbLaw ?tnLaw ?trLaw ?teCr11_Nr11 ?teCr11_Law ?teNr11_Law
    (case a1 => k_is)
    (case l1 => k_is)
    (case c1 => k_is)
    (case k1 => k_is)
    (case a2 => k_is)
    (case l2 => k_is)
    (case c2 => k_is)
    (case k2 => k_is)
    (case a3 => k_is)
    (case l3 => k_is)
    (case c3 => k_is)
    (case k3 => k_is)
    (case a4 => k_is)
    (case l4 => k_is)
    (case c4 => k_is)
    (case k4 => k_is)
    (case a5 => k_is)
    (case l5 => k_is)
    (case c5 => k_is)
    (case k5 => k_is)
    (case a6 => k_is)
    (case l6 => k_is)
    (case c6 => k_is)
    (case k6 => k_is)
    (case a7 => k_is)
    (case l7 => k_is)
    (case c7 => k_is)
    (case k7 => k_is)
    (case a8 => k_is)
    (case l8 => k_is)
    (case c8 => k_is)
    (case k8 => k_is)
    (case a9 => k_is)
    (case l9 => k_is)
    (case c9 => k_is)
    (case k9 => k_is)
    (case a10 => k_is)
    (case l10 => k_is)
    (case c10 => k_is)
    (case k10 => k_is)
    (case a11 => k_is)
    (case l11 => k_is)
    (case c11 => k_is)
    (case k11 => k_is)
    (case a12 => k_is)
    (case l12 => k_is)
    (case c12 => k_is)
    (case k12 => k_is)
    (case a13 => k_is)
    (case l13 => k_is)
    (case c13 => k_is)
    (case k13 => k_is)
    (case a14 => k_is)
    (case l14 => k_is)
    (case c14 => k_is)
    (case k14 => k_is)
    (case a15 => k_is)
    (case l15 => k_is)
    (case c15 => k_is)
    (case k15 => k_is)
    (case a16 => k_is)
    (case l16 => k_is)
    (case c16 => k_is)
    (case k16 => k_is)
    (case a17 => k_is)
    (case l17 => k_is)
    (case c17 => k_is)
    (case k17 => k_is)
    (case a18 => k_is)
    (case l18 => k_is)
    (case c18 => k_is)
    (case k18 => k_is)
    (case a19 => k_is)
    (case l19 => k_is)
    (case c19 => k_is)
    (case k19 => k_is)
    (case a20 => k_is)
    (case l20 => k_is)
    (case c20 => k_is)
    (case k20 => k_is)
    (case a21 => k_is)
    (case l21 => k_is)
    (case c21 => k_is)
    (case k21 => k_is)
    (case a22 => k_is)
    (case l22 => k_is)
    (case c22 => k_is)
    (case k22 => k_is)
    (case a23 => k_is)
    (case l23 => k_is)
    (case c23 => k_is)
    (case k23 => k_is)
    (case ac1 => k_is)
    (case bsp => k_is)
    (case bty => k_is)
    (case brd => k_is)
    (case bfc => k_is)
    (case bex => k_is)
    (case bhd => k_is)
    (case ac2 => k_is)
    (case e2_xL => k_is)
    (case e2_sa => k_is)
    (case e2_ga => k_is)
    (case e2_gg => k_is)
    (case e2_nb => k_is)
    (case e2_ai => k_is)
    (case e2_ti => k_is)
    (case e2_li => k_is)
    (case e2_ci => k_is)
    (case e2_ki => k_is)
    (case e2_kC => k_is)
    (case e2_eC => k_is)
    (case e2_tC => k_is)
    (case e2_hC => k_is)
    (case e2_cC => k_is)
    (case e2_gC => k_is)
    (case e2_kk => k_is)
    (case e2_mC => k_is)
    (case e2_sB => first | k_is | rfl)
    (case ac3 => k_is)
    (case e3_xL => k_is)
    (case e3_sa => k_is)
    (case e3_ga => k_is)
    (case e3_gg => k_is)
    (case e3_nb => k_is)
    (case e3_ai => k_is)
    (case e3_ti => k_is)
    (case e3_li => k_is)
    (case e3_ci => k_is)
    (case e3_ki => k_is)
    (case e3_kC => k_is)
    (case e3_eC => k_is)
    (case e3_tC => k_is)
    (case e3_hC => k_is)
    (case e3_cC => k_is)
    (case e3_gC => k_is)
    (case e3_kk => k_is)
    (case e3_mC => k_is)
    (case e3_sB => first | k_is | rfl)
    (case ac4 => k_is)
    (case e4_xL => k_is)
    (case e4_sa => k_is)
    (case e4_ga => k_is)
    (case e4_gg => k_is)
    (case e4_nb => k_is)
    (case e4_ai => k_is)
    (case e4_ti => k_is)
    (case e4_li => k_is)
    (case e4_ci => k_is)
    (case e4_ki => k_is)
    (case e4_kC => k_is)
    (case e4_eC => k_is)
    (case e4_tC => k_is)
    (case e4_hC => k_is)
    (case e4_cC => k_is)
    (case e4_gC => k_is)
    (case e4_kk => k_is)
    (case e4_mC => k_is)
    (case e4_sB => first | k_is | rfl)
    (case ac5 => k_is)
    (case e5_xL => k_is)
    (case e5_sa => k_is)
    (case e5_ga => k_is)
    (case e5_gg => k_is)
    (case e5_nb => k_is)
    (case e5_ai => k_is)
    (case e5_ti => k_is)
    (case e5_li => k_is)
    (case e5_ci => k_is)
    (case e5_ki => k_is)
    (case e5_kC => k_is)
    (case e5_eC => k_is)
    (case e5_tC => k_is)
    (case e5_hC => k_is)
    (case e5_cC => k_is)
    (case e5_gC => k_is)
    (case e5_kk => k_is)
    (case e5_mC => k_is)
    (case e5_sB => first | k_is | rfl)
    (case kt_kA_NotP => first | k_is | rfl)
    (case kt_kV_NotP => first | k_is | rfl)
    (case kt_kP_NotP => first | k_is | rfl)
    (case kt_kN_NotP => first | k_is | rfl)
    (case kt_kA_NoN => first | k_is | rfl)
    (case kt_kV_NoN => first | k_is | rfl)
    (case kt_kP_NoN => first | k_is | rfl)
    (case kt_kN_NoN => first | k_is | rfl)
    (case z1 => k_is)
    (case z2 => k_is)
    (case z3 => k_is)
    (case z4 => k_is)
    (case z5 => k_is)
    (case z6 => k_is)
    (case z7 => k_is)
    (case z8 => k_is)
    (case z9 => k_is)
    (case z10 => k_is)
    (case z11 => k_is)
    (case z12 => k_is)
    (case z13 => k_is)
    (case z14 => k_is)
    (case z15 => k_is)
    (case z16 => k_is)
    (case z17 => k_is)
    (case z18 => k_is)
    (case tbCr11 => first | k_is | rfl | decide +kernel)
    (case tnCr11 => first | k_is | rfl | decide +kernel)
    (case trCr11 => first | k_is | rfl | decide +kernel)
    (case tbNr11 => first | k_is | rfl | decide +kernel)
    (case tnNr11 => first | k_is | rfl | decide +kernel)
    (case trNr11 => first | k_is | rfl | decide +kernel)
    (case tbLaw => first | k_is | rfl | decide +kernel)
    (case tnLaw => first | k_is | rfl | decide +kernel)
    (case trLaw => first | k_is | rfl | decide +kernel)
    (case teCr11_Nr11 => first | k_is | rfl | decide +kernel)
    (case teCr11_Law => first | k_is | rfl | decide +kernel)
    (case teNr11_Law => first | k_is | rfl | decide +kernel)
